import Derived.Test.YtlghjjennhpjeaaGreatDoorEnK
import Derived.Test.YtlghjjennhpjeaaGreatDoorCoR
set_option maxHeartbeats 8000000
set_option maxRecDepth 100000
namespace Go.Proofs.Y
open Go.Proofs.Tryz
open Go.RowKit Go.Deep Go.Hp
theorem Tryz.anW:(prog.info? 41).map (λi=>(i.zero,i.size,i.bytes))=some (some (.agg #[.int .i64 0,.int .i64 0,.int .i64 0,.int .i64 0,.slice none 0 0,.slice none 0 0,.slice none 0 0]),7,104):=ak
def shC(k n c:Nat)(vN vS:ai)(L:Nat)(a:Nat->aW)(cp:Nat->Nat)(i:Nat):aK:=[.int .i64 ((k:Nat):Int),.int .i64 ((n:Nat):Int),.int .i64 ((i:Nat):Int),.int .i64 ((c:Nat):Int),vN,vS,.slice (a i) L (cp i)]
def shL(k n c:Nat)(vN vS:ai)(L:Nat)(a:Nat->aW)(cp:Nat->Nat)(j:Nat):aK:=(List.range j).flatMap (shC k n c vN vS L a cp)
section
variable {k n c:Nat}{vN vS:ai}{L:Nat}{a:Nat->aW}{cp:Nat->Nat}
theorem Jo(j:Nat):shL k n c vN vS L a cp (j+1)=shL k n c vN vS L a cp j++shC k n c vN vS L a cp j:=by unfold shL;rw[dP,pg];simp
theorem Nq(j:Nat):(shL k n c vN vS L a cp j).length=j*7:=by
 induction j with
 |zero=>rfl
 |succ j ih=>rw[Jo,bM,ih];simp[shC];omega
theorem alj(j i p:Nat)(hi:i<j)(hp:p<7):(shL k n c vN vS L a cp j)[i*7+p]?=(shC k n c vN vS L a cp i)[p]?:=by
 induction j with
 |zero=>omega
 |succ j ih=>
  rw[Jo];by_cases e:i=j
  .subst e;rw[ji (by rw[Nq];omega),Nq,show i*7+p-i*7=p by omega]
  .rw[ig (by rw[Nq];omega),ih ag]
theorem afM{a':Nat->aW}{cp':Nat->Nat}(j:Nat)(h:∀i,i<j->a i=a' i/\cp i=cp' i):shL k n c vN vS L a cp j=shL k n c vN vS L a' cp' j:=by
 induction j with
 |zero=>rfl
 |succ j ih=>rw[Jo,Jo,ih λi hi=>h i ag];simp only[shC,(h j ag).1,(h j ag).2]
end
theorem Uj(w:ah)(x0 x1 x2 x3 x4 x5 x6:ai)(t:aG):∀j u,[x0,x1,x2,x3,x4,x5,x6][j]?=some u->(w.alloc (.cells #[x0,x1,x2,x3,x4,x5,x6] t)).cell? ((⟨w.heap.size,0,none⟩:Addr).add j)=some u:=by
 intro j u hj
 match j,hj with
 |0,hj=>simp at hj;subst hj;simp[Addr.add]
 |1,hj=>simp at hj;subst hj;simp[Addr.add]
 |2,hj=>simp at hj;subst hj;simp[Addr.add]
 |3,hj=>simp at hj;subst hj;simp[Addr.add]
 |4,hj=>simp at hj;subst hj;simp[Addr.add]
 |5,hj=>simp at hj;subst hj;simp[Addr.add]
 |6,hj=>simp at hj;subst hj;simp[Addr.add]
theorem yS{w:ah}{B t s n:Nat}{v:ai}{xs:aK}(h:w.ownsRow B t s v n xs):∃x c,v=.slice x n c:=by
 rcases h.2 with⟨e,e2⟩|⟨g,c,cur,rfl,_⟩
 .exact⟨none,0,by rw[e,e2]⟩
 .exact⟨_,_,rfl⟩
theorem xw{w w':ah}{B B' t s n:Nat}{v:ai}{xs:aK}(h:w.ownsRow B t s v n xs)(hb:Below B' w w')(hB:w.heap.size<=B'):w'.ownsRow B t s v n xs:=
 qH h λg hg=>hb.block g (bH (h.lt g hg).2 hB)
def ahW(k n c m:Nat)(f:Nat->rU)(d:rU->aj)(w:ah)(r:Ending)(w':ah):Prop:=
 Below w.heap.size w w'/\∃(f':Nat->rU)(bN bZ:aW)(cN cZ bS cS:Nat)(a:Nat->aW)(cp:Nat->Nat),qX m f f'/\Om m f'/\r=.returned (.slice (some ⟨bS,0,none⟩) n cS)/\w'.ownsRow w.heap.size 9 1 (.slice bN m cN) m (uU (uf m f'))/\w'.ownsRow w.heap.size 3 1 (.slice bZ m cZ) m (Jp (uJ m f'))/\
  w'.ownsRow w.heap.size 41 7 (.slice (some ⟨bS,0,none⟩) n cS) n (shL k n c (.slice bN m cN) (.slice bZ m cZ) (rO k (qM (λj=>d (f' j)) m).length) a cp n)/\
  ∀i,i<n->w'.ownsRow w.heap.size 5 1 (.slice (a i) (rO k (qM (λj=>d (f' j)) m).length) (cp i)) (rO k (qM (λj=>d (f' j)) m).length) (Be (rO k (qM (λj=>d (f' j)) m).length) λq=>A7 (sN k i) (λj=>Ox (qM (λj=>d (f' j)) m) (rO k (qM (λj=>d (f' j)) m).length) j q) k)
theorem acT(k n c m cap:Nat)(bo:aW)(f:Nat->rU)(d:rU->aj)(w:ah)(V4:1<=k)(hkn:k<=n)(hn:n<=128)(hm:m<=1048576)(uF:m<=cap)(hbo:bo=none->cap=0)(hB:BC w bo m f)(hD:∀i,i<m->D_ w (f i) (d (f i)))
  (hT:∀f',qX m f f'->Om m f'->(qM (λj=>d (f' j)) m).length<=65536):
  Calls prog 16 #[.slice bo m cap,.agg #[.int .i64 ((k:Nat):Int),.int .i64 ((n:Nat):Int),.int .i64 ((c:Nat):Int)]] w λr w'=>ahW k n c m f d w r w':=by
 obtain⟨i0,zo,xY,wW,vV⟩:=cO Tryz.anW;have hr0:=ql.made w [.int .i64 ((k:Nat):Int),.int .i64 ((n:Nat):Int),.int .i64 ((c:Nat):Int)] 60;have xH:=(aO w.heap.size w).alloc (ay _) (.cells #[.int .i64 ((k:Nat):Int),.int .i64 ((n:Nat):Int),.int .i64 ((c:Nat):Int)] 60);have s0:(w.alloc (.cells #[.int .i64 ((k:Nat):Int),.int .i64 ((n:Nat):Int),.int .i64 ((c:Nat):Int)] 60)).heap.size=w.heap.size+1:=aA;have c0:=hr0.cell (i:=0) rfl;have ks:=afN k m cap bo f d (w.alloc (.cells #[.int .i64 ((k:Nat):Int),.int .i64 ((n:Nat):Int),.int .i64 ((c:Nat):Int)] 60)) V4 ag hm uF hbo (hB.up aA λh=>qK xH (ay _) h) (λi hi=>(hD i hi).grow aA λh=>qK xH (ay _) h) hT
 have hDl:∀f',qX m f f'->∀i,i<m->(d (f' i)).length=(f' i).l:=λf' hR i hi=>by obtain⟨j,hj,e⟩:=hR.from hi;rw[e];exact(hD j hj).1
 clear hB hD uF hbo;go_enter func16,ntmps16
 go_wp2_with(first
  |(go_at_call 39;(with_reducible refine ks.mono ?_);rintro r w1 ⟨b1,f',vN,vS,bP,cP,a0,bl0,cp0,hR,hS,rfl,hvN,hvS,hC⟩;clear ks
    have ht:=hT f' hR hS;have Uk:=hDl f' hR
    have hle:∀j,j<m->(f' j).l<=65536:=λj hj=>(by
     have h1:=Oy (λj=>d (f' j)) (i:=j+1) (n:=m) ag;simp only[qM,bM]at h1;have:=Uk j hj;omega)
    have VM:=P8 d f' m Uk;have EO:=hr0.later (S:=λ_=>False) (.qw b1) aA id;have tV:=xH.trans (b1.mono aA);have Ai:=tV.size;have d0:=EO.cell (i:=0) rfl;have kl:=QT (k:Int) k rfl V4 ag _ _ (by rw[Ea];omega) (aaq m f') (aar m f' λj hj=>by have:=hle j hj;omega) (by rw[VM];exact ht) w1 (yT hvS);rw[VM]at kl
    have hLb:rO k (qM (λj=>d (f' j)) m).length<=65536:=(by
     have:=G_ V4 (qM (λj=>d (f' j)) m).length;omega)
    obtain⟨bN,cN,rfl⟩:=yS hvN;obtain⟨bZ,cZ,rfl⟩:=yS hvS;clear hDl hT Uk hle VM)
  |(go_at_call 32;(with_reducible refine kl.mono ?_);rintro r w' ⟨rfl,sH⟩;obtain rfl:=sH.symm))
 clear kl;have ap2:=hvN.mono (base':=w.heap.size) (by rw[s0];omega);have ap3:=hvS.mono (base':=w.heap.size) (by rw[s0];omega)
 have fin:∀(w2:ah)(bS cS:Nat)(a:Nat->aW)(cp:Nat->Nat),Below w1.heap.size w1 w2->w2.ownsRow w1.heap.size 41 7 (.slice (some ⟨bS,0,none⟩) n cS) n (shL k n c (.slice bN m cN) (.slice bZ m cZ) (rO k (qM (λj=>d (f' j)) m).length) a cp n)->(∀i,i<n->w2.ownsRow w1.heap.size 5 1 (.slice (a i) (rO k (qM (λj=>d (f' j)) m).length) (cp i)) (rO k (qM (λj=>d (f' j)) m).length) (Be (rO k (qM (λj=>d (f' j)) m).length) λq=>A7 (sN k i) (λj=>Ox (qM (λj=>d (f' j)) m) (rO k (qM (λj=>d (f' j)) m).length) j q) k))->
   ahW k n c m f d w (.returned (.slice (some ⟨bS,0,none⟩) n cS)) w2:=λw2 bS cS a cp rq hV J_=>
  ⟨tV.trans (rq.mono Ai),f',bN,bZ,cN,cZ,bS,cS,a,cp,hR,hS,rfl,xw ap2 rq (ay _),xw ap3 rq (ay _),hV.mono Ai,λi hi=>(J_ i hi).mono Ai⟩
 clear hvN hvS ap2 ap3 hR hS b1 tV xH hr0 c0 d0;generalize hL:rO k (qM (λj=>d (f' j)) m).length=L at*;generalize hl:qM (λj=>d (f' j)) m=l at*;have p1:w1.ownsRow w1.heap.size 41 7 (.slice none 0 0) 0 (shL k n c (.slice bN m cN) (.slice bZ m cZ) L (λ_=>none) (λ_=>0) 0):=bY _ _ _ _;have hr2:=EO;have ap4:w.heap.size<w1.heap.size:=by have:=EO.lt;exact this
 clear EO;generalize hBs:w1.heap.size=B at*
 go_loopw [9,10,11] (λvs vi _ wq=>∃(j:Nat)(a:Nat->aW)(cp:Nat->Nat),j<=n/\vi=.int .i64 ((j:Nat):Int)/\wq.ownsRow B 41 7 vs j (shL k n c (.slice bN m cN) (.slice bZ m cZ) L a cp j)/\(∀t,t<j->wq.ownsRow B 5 1 (.slice (a t) L (cp t)) L (Be L λq=>A7 (sN k t) (λj=>Ox l L j q) k))/\Below B w1 wq) (λ_ vi _ _=>n-(intOf vi).toNat)
 case atStart=>exact⟨0,λ_=>none,λ_=>0,ag,rfl,p1,λt ht=>absurd ht ag,aO _ _⟩
 case round=>
  clear p1;obtain⟨j,a,cp,hj,rfl,hV,J_,hb⟩:=hrel;have hs:B<=wr.heap.size:=hBs▸hb.size;have hr3:=hr2.later (S:=λ_=>False) (.qw hb) ap4 id;have e1:=hr3.cell (i:=1) rfl;by_cases qB:j<n
  .have xZ:(j:Int)<(n:Int):=ag;have e0:=hr3.cell (i:=0) rfl;have ap5:=aas k j ag ag wr;have hC1:Cls wr k L bP a0 bl0 cp0 (Ox l L):=hC.heap λhc=>qK hb ag hc
   go_wp2_with(first
    |(go_at_call 36;(with_reducible refine ap5.mono ?_);rintro r w2 ⟨vr,rfl,hvr,rq⟩;obtain⟨br,cr,rfl,_,_⟩:=hvr.form ag;have km:=afO k L br cr bP cP (sN k j) a0 bl0 cp0 (Ox l L) w2 (λt ht=>(by rw[hvr.cellAt t ag];simp[ht])) (λ_=>Am) (λ_ _=>Ha _ _) (hC1.heap λhc=>qK rq (ay _) hc) ag ag;have Gn:=rq.size;have hV2:=xw hV rq (ay _);have ahX:=λt ht=>xw (J_ t ht) rq (ay _);have arv:=hb.trans (rq.mono hs);clear ap5 hvr hV J_ hb hr3 e1 e0)
    |(go_at_call 40;(with_reducible refine km.mono ?_);rintro r w3 ⟨vc,rfl,hvc,uQ⟩;obtain⟨xc,cc,rfl⟩:=yS hvc;have zM:=uQ.size;have Gg:=xw hV2 uQ (ay _);have ahY:=λt ht=>xw (ahX t ht) uQ (ay _);have ap6:=hvc.mono (base':=B) ag;have apx:=arv.trans (uQ.mono ag);have hr4:=hr2.later (S:=λ_=>False) (.qw apx) ap4 id;have g0:=hr4.cell (i:=0) rfl;have g1:=hr4.cell (i:=1) rfl;have g2:=hr4.cell (i:=2) rfl;clear km hvc hV2 ahX arv rq uQ)
    |(at_builtin;refine di _ rfl _ _ 39 rfl B 41 i0 _ 7 104 underlying39 zo xY wW vV rfl aB _ _ _ rfl (Gg.alloc _) ⟨w3.heap.size,0,none⟩ 1 1 [.int .i64 ((k:Nat):Int),.int .i64 ((n:Nat):Int),.int .i64 ((j:Nat):Int),.int .i64 ((c:Nat):Int),.slice bN m cN,.slice bZ m cZ,.slice xc L cc] rfl rfl (Uj _ _ _ _ _ _ _ _ _) (by intro u hu;simp at hu;rcases hu with rfl|rfl|rfl|rfl|rfl|rfl|rfl<;>rfl) bT ag aJ ?_;intro v4 w4 hV4 qA _))
   have Xe:=apx.trans (tJ Gg ag ((aO _ _).alloc (ay _) _) qA (ay _));have kp:∀{v:ai}{q:Nat}{xs:aK},w3.ownsRow B 5 1 v q xs->w4.ownsRow B 5 1 v q xs:=λh=>xB Gg h aB ((aO _ _).alloc (ay _) _) qA
   have hc4:=kp ap6;have anX:=λt ht=>kp (ahY t ht)
   clear qA Gg apx ahY ap6 kp hr4 g0 g1 g2
   have hV5:w4.ownsRow B 41 7 v4 (j+1) (shL k n c (.slice bN m cN) (.slice bZ m cZ) L (λt=>if t=j then xc else a t) (λt=>if t=j then cc else cp t) (j+1)):=by rw[Jo,afM (a':=a) (cp':=cp) j (λi hi=>⟨au ag,au ag⟩)];simpa[shC]using hV4
   clear hV4
   go_roundw
   case rel=>exact⟨j+1,_,_,ag,aV,hV5,λt ht=>by
    by_cases e:t=j
    .subst e;simpa using hc4
    .simpa[e]using anX t ag,Xe⟩
   case measure=>simp[intOf];omega
  .have hjk:j=n:=ag;rw[hjk]at hV J_⊢;clear hj qB hjk;have aat:¬((n:Int)<(n:Int)):=ag;obtain⟨bS,cS,rfl,_,_⟩:=hV.form ag;have C_:=fin wr bS cS a cp hb hV J_;clear J_ hV fin;go_wp2;go_ret;exact C_
end Go.Proofs.Y
namespace Go.Proofs.Y
open Go.Proofs.Tryz
open Go.RowKit Go.Deep
end Go.Proofs.Y
namespace Go.Proofs.Y
open Go.Proofs.Tryz
open Go.RowKit Go.Deep Go.Hp
structure aty(w:ah)(bo:aW)(m cap:Nat)(f:Nat->rU)(d:rU->aj):Prop where
 hm:m<=1048576
 uF:m<=cap
 hbo:bo=none->cap=0
 hk:∀i,i<m->(f i).k.length<=9223372036854775807
 hl:∀i,i<m->(f i).l<=9223372036854775807
 bc:BC w bo m f
 dat:∀i,i<m->D_ w (f i) (d (f i))
end Go.Proofs.Y
namespace Go.Proofs.Y
open Go.Proofs.Tryz
open Go.RowKit Go.Deep
theorem YQ{w:ah}{N:Nat}{c:aH}{t:aG}(c':aH)(h:w.heap[N]?=some (.cells c t)):(w.setRow N c').heap[N]?=some (.cells c' t):=by simp[World.setRow,iy,h]
theorem V_(w:ah){N b:Nat}(c':aH)(h:b≠N):(w.setRow N c').heap[b]?=w.heap[b]?:=by simp[World.setRow,iy,dE h]
theorem YR(w:ah)(N:Nat)(c':aH):(w.setRow N c').heap.size=w.heap.size:=by simp[World.setRow]
structure anY(w:ah)(k L P F:Nat)(l:aj)(w':ah):Prop where
 list:w'.rowIs P 24 k (λj=>.slice (some ⟨F,j*L,none⟩) L (k*L-j*L))
 row:w'.rowIs F 5 (k*L) (λj=>.int .u8 ((sV l j:Nat):Int))
 lo:w.heap.size<=P/\w.heap.size<=F
 xG:Below w.heap.size w w'
theorem ahZ(w:ah)(F n:Nat)(vd:ai)(l:aj)(hv:qP w vd (rP l))(hn:l.length<=n)(hF:w.rowIs F 5 n (λ_=>.int .u8 0)):
  ∃w',(Builtin.copy_ #[24,24] 3 #[.slice (some ⟨F,0,none⟩) n n,vd]).run prog w=.ok (goInt l.length) w'/\w'.rowIs F 5 n (λj=>.int .u8 ((sV l j:Nat):Int))/\(∀b,b≠F->w'.heap[b]?=w.heap[b]?)/\w'.heap.size=w.heap.size/\w'.os=w.os/\w'.tape=w.tape/\w'.output=w.output:=by
 obtain⟨cur,V5,hc2,hc3⟩:=hF;obtain⟨i0,hi,_,wW,_⟩:=cO Tryz.aau;have hsz:(prog.info? 5).map (·.size)=some 1:=by rw[hi];simp[wW]
 obtain⟨ba,cap,rfl,hle,hcell⟩:=hv;rcases gy l.length with h0|h0
 .obtain rfl:l=[]:=jQ h0;refine⟨w,?_,⟨cur,V5,hc2,λi hi=>by rw[hc3 i hi];rfl⟩,λ_ _=>rfl,rfl,rfl,rfl,rfl⟩;cases ba<;>simp[rP,Builtin.copy_,run_underlying underlying24,Builtin.lenOf,Builtin.firstCells,sizeOf,typeInfo,hi,loadCells,loadCellsFrom,storeCells]
 .obtain⟨b,off,rfl,_⟩:=hcell 0 ((rP l)[0]'(by simpa[rP]using h0)) aA
  have akM:∀j v,(rP l)[j]?=some v->w.cell? ((⟨b,off,none⟩:Addr).add j)=some v:=λj v hj=>by obtain⟨b',akN,e,h⟩:=hcell j v hj;cases e;rw[show(⟨b,off,none⟩:Addr).add j=⟨b,off+j,none⟩from by unfold Addr.add;by_cases h:j=0<;>simp[h]];exact h
  have hl:(rP l).length=l.length:=fV;have r_:=run_copy_row prog w 24 24 3 5 F 0 n n ⟨b,off,none⟩ (rP l).length cap cur 5 (rP l) underlying24 hsz V5 (by rw[hl];exact(ni hn).symm) akM (by rw[hl,hc2];omega) (KJ l);rw[hl]at r_;refine⟨_,by rw[hl];exact r_,⟨_,YQ _ V5,?_,λi hi=>?_⟩,λb hb=>V_ w _ hb,YR _ _ _,rfl,rfl,rfl⟩
  .simp[hc2,hl];omega
  .simp only[gG,dw,bJ];rw[oZ];by_cases h:i<l.length
   .rw[ig (by rw[hl];exact h),wF h]
   .rw[ji nY,auS,hl,show l.length+(i-l.length)=i by omega,av7,hc3 i hi];simp[sV,h_ (show l.length<=i by omega)]
theorem alk(k:Nat)(V4:1<=k)(hk:k<=128)(vd:ai)(l:aj)(hl:l.length<=65536)(w:ah)(hv:qP w vd (rP l)):
  Calls prog 83 #[.int .i64 ((k:Nat):Int),vd] w λe w'=>∃P F,e=.returned (.slice (some ⟨P,0,none⟩) k k)/\anY w k (rO k l.length) P F l w':=by
 have c1:=Fg (k:Int) (l.length:Int) k l.length rfl rfl V4 ag hl;have hL1:rO k l.length*k<l.length+k:=by unfold rO;have:=auN (l.length+k-1) k;omega
 have hL2:l.length<=k*rO k l.length:=by unfold rO;have:=Nat.lt_div_mul_add (a:=l.length+k-1) (b:=k) ag;rw[fQ];omega
 have hLb:rO k l.length<=65536:=by unfold rO;exact Nat.div_le_of_le_mul (by have:=iI V4 (ay 65536);omega)
 generalize hL:rO k l.length=L at*;have hkL:k*L<=65536+128:=by rw[fQ];omega
 have hlv:∃ba cap,vd=.slice ba l.length cap:=by obtain⟨ba,cap,rfl,_⟩:=hv;exact⟨ba,cap,fV⟩
 have hm1:∀w:ah,(Instr.makeSlice 24 (.int .i64 ((k*L:Nat):Int)) (.int .i64 ((k*L:Nat):Int))).run prog w=.ok (.slice (some ⟨w.heap.size,0,none⟩) (k*L) (k*L)) (w.alloc (.cells (madeCells #[.int .u8 0] (k*L)) 5)):=
  λw=>run_make_row' (P:=prog) 24 5 (.int .u8 0) 1 underlying24 Tryz.aau rfl .i64 .i64 (k*L) ag ag w
 have hmul:((k:Nat):Int)*((L:Nat):Int)=((k*L:Nat):Int):=aA;have z1:=World.rowIs_made w (.int .u8 0) (k*L) 5;have b1:Below w.heap.size w (w.alloc (.cells (madeCells #[.int .u8 0] (k*L)) 5)):=(aO _ _).alloc (ay _) _;have s1:(w.alloc (.cells (madeCells #[.int .u8 0] (k*L)) 5)).heap.size=w.heap.size+1:=aA;obtain⟨w2,hcp,r2,o2,s2,h2a,h2b,h2c⟩:=ahZ _ w.heap.size (k*L) vd l (hv.below b1) hL2 z1;have b2:Below w.heap.size w w2:=⟨h2a,h2b,h2c,ag,λb hb=>by rw[o2 b ag];exact b1.block b hb⟩;have arI:=hm1 w;have m2:=Eb k hk w2;have z2:=World.rowIs_made w2 (.slice none 0 0) k 24;have b3:Below w.heap.size w (w2.alloc (.cells (madeCells #[.slice none 0 0] k) 24)):=b2.alloc ag _;have r3:=r2.alloc (.cells (madeCells #[.slice none 0 0] k) 24);have Gn:w2.heap.size=w.heap.size+1:=ag;rw[Gn]at m2 z2;generalize madeCells #[.int .u8 0] (k*L)=Z1 at*;generalize madeCells #[.slice none 0 0] k=Z2 at*;obtain⟨ba,cap,rfl⟩:=hlv;generalize TM:l.length=n at*;have hLk:L*k=k*L:=fQ _ _;clear hm1 s1 o2 s2 h2a h2b h2c z1 b1 hv hmul;have hmul:((k:Nat):Int)*((L:Nat):Int)=((k*L:Nat):Int):=aA;generalize hKL:k*L=kL at*;go_enter func83,ntmps83
 go_wp2_with(first|(go_at_call 116;(with_reducible refine(c1 _).mono ?_);rintro e w' ⟨rfl,sH⟩;obtain rfl:=sH.symm))
 clear hcp arI m2 c1;have hne:w.heap.size+1≠w.heap.size:=ag;generalize w2.alloc (Obj.cells Z2 24)=w3 at*;clear r2 b2
 go_loopw [8,24] (λ_ vi wr=>∃j:Nat,j<=k/\vi=.int .i64 ((j:Nat):Int)/\wr.rowIs (w.heap.size+1) 24 k (λi=>if i<j then .slice (some ⟨w.heap.size,i*L,none⟩) L (kL-i*L)else .slice none 0 0)/\wr.rowIs w.heap.size 5 kL (λj=>.int .u8 ((sV l j:Nat):Int))/\Below w.heap.size w wr) (λ_ i _=>k-(intOf i).toNat)
 case atStart=>exact⟨0,ag,rfl,z2.congr λi _=>iT,r3,b3⟩
 case round=>
  obtain⟨j,hj,rfl,hR,hr,hb⟩:=hrel;by_cases qB:j<k
  .have xZ:(j:Int)<(k:Int):=ag;have hjL:j*L+L<=kL:=by rw[<-hKL,<-fP];exact jI L qB
   have hm1:((j:Nat):Int)*((L:Nat):Int)=((j*L:Nat):Int):=aA;have hm2:(((j:Nat):Int)+1)*((L:Nat):Int)=((j*L+L:Nat):Int):=by rw[Int.add_mul];simp
   have g0:=hR.cell qB;rw[au ag]at g0;have g1:=hR.frozen j
   have LX:=(hR.set j (.slice (some ⟨w.heap.size,j*L,none⟩) L (kL-j*L))).congr (g:=λi=>if i<j+1 then .slice (some ⟨w.heap.size,i*L,none⟩) L (kL-i*L)else .slice none 0 0) (λi _=>by
    by_cases e:i=j
    .subst e;rw[ax rfl,ax ag]
    .rw[au e];by_cases e2:i<j
     .rw[ax e2,ax ag]
     .rw[au e2,au ag])
   have hr2:=hr.setOther (a:=⟨w.heap.size+1,j,none⟩) avh (.slice (some ⟨w.heap.size,j*L,none⟩) L (kL-j*L));have rq:=hb.setCell (p:=⟨w.heap.size+1,j,none⟩) avi (.slice (some ⟨w.heap.size,j*L,none⟩) L (kL-j*L));clear hR hr hb z2 r3 b3
   have hif:kL=j*L->j*L=0:=λe=>by have:L=0:=ag;rw[this,Nat.mul_zero]
   generalize Oc:j*L=jL at*
   have atz:(if kL=jL then some (⟨w.heap.size,0,none⟩:Addr)else some ⟨w.heap.size,jL,none⟩)=some ⟨w.heap.size,jL,none⟩:=by
    by_cases e:kL=jL
    .rw[ax e,hif e]
    .rw[au e]
   clear hif;have d1:(jL:Int)<=((jL+L:Nat):Int):=ag;have d2:((jL+L:Nat):Int)<=(kL:Int):=ag;have d3:jL+L-jL=L:=ag;go_wp2
   go_roundw
   case rel=>exact⟨j+1,ag,aV,LX,hr2,rq⟩
   case measure=>simp[intOf];omega
  .obtain rfl:j=k:=ag;have E5:¬((j:Int)<(j:Int)):=ag;go_wp2;go_ret;rw[<-hKL]at hr;exact⟨w.heap.size+1,rfl,w.heap.size,hR.congr λi hi=>by rw[ax hi,hKL],hr,⟨ag,ay _⟩,hb⟩
end Go.Proofs.Y
namespace Go.Proofs.Y
open Go.Proofs.Tryz
open Go.Conc Go.RowKit Go.Gh
open Go.ConcR (Payload)
section
variable {main:Bool}{R:ah->ah->Prop}{D:ah->ah->aN->Prop}
def MI(R:ah->ah->Prop)(w0:ah)(m:Nat)(a:Act)(w:ah):Prop:=∃(k p x y:Nat)(v2 v3 v4 v7 v8 v9 v10 v11 v12 VP Xf S9 S_ Tc PS PU:ai),k<=8/\p<256/\x<256/\y<256/\Hid (Fb (8-k) p x y=m)/\Since R w0 w/\a=⟨#[.int .u8 ((x:Nat):Int),.int .u8 ((y:Nat):Int),v2,v3,v4,.int .u8 ((p:Nat):Int),.int .i64 ((k:Nat):Int),v7,v8,v9,v10,v11,v12,VP,Xf,S9,S_,Tc,PS,PU],[]⟩
def muM(a:Act)(_:ah):Nat:=8-(intOf (a.tmps.getD 6 undef)).toNat
theorem ap7(T:Terms R D):∃n,∀(a b:Nat)(w:ah),a<256->b<256->CallsC prog main R D 123 #[.int .u8 (a:Int),.int .u8 (b:Int)] n w λv w'=>v=.int .u8 (mul a b:Nat)/\Since R w w':=by
 obtain⟨kx,hx⟩:=aao (main:=main) T;co_apply Exists.intro;intro a b w ha hb;co_apply callsC_of_wpC func123 aF rfl;have hF:Since R w w:=.refl w;simp only[ntmps123,fH,dQ,d_,Nat.reduceAdd,Nat.reduceSub,eU,eQ,eH,eP,dw,df]
 co_go T (Since.rely T) hF (co_quiet T)
 co_apply ku T (MI R w (mul a b)) muM _ 8
 .exact⟨0,0,a,b,_,_,_,_,_,_,_,_,_,_,_,_,_,_,_,_,ag,ag,ha,hb,rfl,hF,rfl⟩
 .simp[muM]
 .rintro act w' ⟨k,p,x,y,v2,v3,v4,v7,v8,v9,v10,v11,v12,VP,Xf,S9,S_,Tc,PS,PU,hk,hp,hx',hy,H,hF,rfl⟩
  co_go T (Since.rely T) hF (co_quiet T)
  co_split T (decide (((k:Nat):Int)<8))
  .intro qB;have xZ:k<8:=avJ;clear qB;have hand:=aeJ y hy;have G:=P6 xZ H.out;clear H
   co_ctl T
   co_then
   co_ctl T
   co_ctl T
   co_apply wpC_seq_mid T (λa' w'=>∃(p':Nat)(v8 v9 v10 v11 v12 VP:ai),p'<256/\p'=(if y%2=1 then p^^^x else p)/\Since R w w'/\a'=⟨#[.int .u8 ((x:Nat):Int),.int .u8 ((y:Nat):Int),v2,v3,v4,.int .u8 ((p':Nat):Int),.int .i64 ((k:Nat):Int),.bool (decide (((k:Nat):Int)<8)),v8,v9,v10,v11,v12,VP,Xf,S9,S_,Tc,PS,PU],[]⟩)
   .co_go T (Since.rely T) hF (co_quiet T)
    co_split T (((y:Nat):Int)%2==1)
    .intro h1;have h2:y%2=1:=qh;clear h1
     co_go T (Since.rely T) hF (co_quiet T)
     rw[aan hp hx'];exact⟨p^^^x,_,_,_,_,_,_,CV hp hx',by rw[ax h2],hF,rfl⟩
    .intro h1;have h2:¬y%2=1:=qh;clear h1
     co_go T (Since.rely T) hF (co_quiet T)
     exact⟨p,_,_,_,_,_,_,hp,by rw[au h2],hF,rfl⟩
   .clear hF;rintro a' w' ⟨p',v8,v9,v10,v11,v12,VP,hp',Bh,hF,rfl⟩;rw[<-Bh]at G;clear Bh
    co_go T (Since.rely T) hF (co_quiet T)
    co_apply opsC_call T rfl aF rfl
    .walk_nrm;exact hx _ _ hx'
    rintro v w' ⟨rfl,hs⟩;replace hF:Since R w w':=hs.elim (λe=>e▸hF) (λr=>Since.rely T hF r);clear hs;walk_nrm
    co_go T (Since.rely T) hF (co_quiet T)
    have e1:((y:Nat):Int)/2=((y/2:Nat):Int):=ag;have e2:IntKind.i64.wrap (((k:Nat):Int)+1)=((k+1:Nat):Int):=jG;simp only[e1,e2];refine⟨⟨k+1,p',tx x,y/2,_,_,_,_,_,_,_,_,_,_,_,_,_,_,_,_,ag,hp',MB hx',ag,G,hF,rfl⟩,?_⟩;simp[muM,intOf];omega
  .intro qB;obtain rfl:k=8:=awW;clear qB
   co_go T (Since.rely T) hF (co_quiet T)
   refine⟨rfl,_,resultsC_tmp aF _,?_,hF⟩;have G:p=mul a b:=H.out;simp[G]
def II(R:ah->ah->Prop)(w0:ah)(m:Nat)(a:Act)(w:ah):Prop:=∃(k p x:Nat)(v0 v1 v2 v5 v7 v8 v9 v10 v11 v12 VP Xf S9:ai),k<=7/\p<256/\x<256/\Hid (acK (7-k) p x=m)/\Since R w0 w/\a=⟨#[v0,v1,v2,.int .u8 ((p:Nat):Int),.int .u8 ((x:Nat):Int),v5,.int .i64 ((k:Nat):Int),v7,v8,v9,v10,v11,v12,VP,Xf,S9],[]⟩
def anZ(a:Act)(_:ah):Nat:=7-(intOf (a.tmps.getD 6 undef)).toNat
theorem ap8(T:Terms R D):∃n,∀(a:Nat)(w:ah),a<256->CallsC prog main R D 94 #[.int .u8 (a:Int)] n w λv w'=>v=.int .u8 (inv a:Nat)/\Since R w w':=by
 obtain⟨kx,hx⟩:=ap7 (main:=main) T;co_apply Exists.intro;intro a w ha;co_apply callsC_of_wpC func94 aF rfl;have hF:Since R w w:=.refl w;simp only[ntmps94,fH,dQ,d_,Nat.reduceAdd,Nat.reduceSub,eU,eQ,eH,eP,dw,df]
 co_go T (Since.rely T) hF (co_quiet T)
 co_apply ku T (II R w (inv a)) anZ _ 7
 .exact⟨0,a,1,_,_,_,_,_,_,_,_,_,_,_,_,_,ag,ha,ag,rfl,hF,rfl⟩
 .simp[anZ]
 .rintro act w' ⟨k,p,x,v0,v1,v2,v5,v7,v8,v9,v10,v11,v12,VP,Xf,S9,hk,hp,hx',H,hF,rfl⟩
  co_go T (Since.rely T) hF (co_quiet T)
  co_split T (decide (((k:Nat):Int)<7))
  .intro qB;have xZ:k<7:=avJ;clear qB;have hpp:mul p p<256:=mul_lt hp
   co_go T (Since.rely T) hF (co_quiet T)
   co_apply opsC_call T rfl aF rfl
   .walk_nrm;exact hx _ _ _ hp hp
   rintro v w' ⟨rfl,hs⟩;replace hF:Since R w w':=hs.elim (λe=>e▸hF) (λr=>Since.rely T hF r);clear hs;walk_nrm
   co_go T (Since.rely T) hF (co_quiet T)
   co_apply opsC_call T rfl aF rfl
   .walk_nrm;exact hx _ _ _ hx' hpp
   rintro v w' ⟨rfl,hs⟩;replace hF:Since R w w':=hs.elim (λe=>e▸hF) (λr=>Since.rely T hF r);clear hs;walk_nrm
   co_go T (Since.rely T) hF (co_quiet T)
   have e2:IntKind.i64.wrap (((k:Nat):Int)+1)=((k+1:Nat):Int):=jG;simp only[e2];refine⟨⟨k+1,mul p p,mul x (mul p p),_,_,_,_,_,_,_,_,_,_,_,_,_,ag,hpp,mul_lt hx',Xm xZ H.out,hF,rfl⟩,?_⟩;simp[anZ,intOf];omega
  .intro qB;obtain rfl:k=7:=awW;clear qB
   co_go T (Since.rely T) hF (co_quiet T)
   refine⟨rfl,_,resultsC_tmp aF _,?_,hF⟩;have G:x=inv a:=H.out;simp[G]
end
def P9(k i c:Nat):aC:=(List.range k).map λj=>if j<c then sN k i j else 0
theorem afP(k i:Nat):P9 k i 0=List.replicate k 0:=by unfold P9;apply jk;intro j;by_cases h:j<k<;>simp[h]
theorem ah0(k i c:Nat)(hc:c<k):(P9 k i c).set c (sN k i c)=P9 k i (c+1):=by
 unfold P9;apply jk;intro j;rw[nJ];by_cases h:c=j
 .subst h;simp[hc]
 .rw[au h];by_cases hj:j<k
  .simp only[dV,o8 hj,fM];by_cases h1:j<c
   .rw[ax h1,ax ag]
   .rw[au h1,au ag]
  .simp[hj]
theorem ah1(k i:Nat):P9 k i k=(List.range k).map (sN k i):=by unfold P9;exact g_ λj hj=>by rw[ax iC]
theorem afQ(k i:Nat)(hi:i<k):(List.replicate k 0).set i 1=(List.range k).map (sN k i):=by
 apply jk;intro j;rw[nJ];by_cases h:i=j
 .subst h;simp[hi,sN]
 .rw[au h];by_cases hj:j<k
  .simp[hj,sN,hi,dE h]
  .simp[hj]
section
variable [Payload][qR]{main:Bool}{Wg C n B:Nat}{Cl:Nat->Prop}
omit [qR]in
theorem CG.set{w0 w:ah}(h0:Bs C B w0){N:Nat}{cur:aC}(h:CG Wg C n B Cl w0 N cur w)(i x:Nat):CG Wg C n B Cl w0 N (cur.set i x) (w.setCell ⟨N,i,none⟩ (.int .u8 ((x:Nat):Int))):=
 ⟨h.bs.set _ _,aap h.ex h0 h.lo _,h.lo,sD (w:=w) (w':=w.setCell _ _) rfl eY h.mn,by rw[heap_set w h.hx,Ul]⟩
omit [Payload][qR]in
theorem ah2(k:Nat)(hk:k<=128):(∀w:ah,(Instr.makeSlice 24 (.int .i64 (k:Int)) (.int .i64 (k:Int))).run prog w=.ok (.slice (some ⟨w.heap.size,0,none⟩) k k) (w.alloc (.cells (madeCells #[.int .u8 0] k) 5)))/\∀(w:ah)(es:aN),(Instr.makeSlice 24 (.int .i64 (k:Int)) (.int .i64 (k:Int))).events prog w es=es:=by
 obtain⟨i0,hi,xY,wW,vV⟩:=cO Tz;refine⟨λw=>?_,λw es=>?_⟩
 .have:=kC (P:=prog) w 24 5 i0 (.int .u8 0) underlying24 hi xY .i64 .i64 (k:Int) (k:Int) ag ag jv ag;rw[wW,show(Value.int .u8 0).cells=#[.int .u8 0]from rfl]at this;exact axb
 .exact events_make (P:=prog) w 24 5 i0 (.int .u8 0) underlying24 hi xY .i64 .i64 (k:Int) (k:Int) ag ag jv ag avk es
theorem afR(k i:Nat)(hk:k<=128)(hi:i<k):∃q,∀(w:ah),Bs C B w->
  CallsC prog main (Ro Wg C n B Cl) (Dg Wg C n B Cl) 93 #[.int .i64 ((k:Nat):Int),.int .i64 ((i:Nat):Int)] q w λv w'=>∃N,v=.slice (some ⟨N,0,none⟩) k k/\CG Wg C n B Cl w N ((List.range k).map (sN k i)) w':=by
 obtain⟨hmk,hme⟩:=ah2 k hk;have hiI:(i:Int)<(k:Int):=ag;co_apply Exists.intro;intro w hb;co_apply callsC_of_wpC func93 aF rfl;simp only[ntmps93,fH,dQ,d_,Nat.reduceAdd,Nat.reduceSub,eU,eQ,eH,eP,dw,df];have hF:CF Wg C n B Cl w w:=⟨hb,.refl w⟩;co_apply cu qj;co_reg qj;co_op CF.rely hF (co_quiet qj);co_apply b_ qj;co_then;co_apply cu qj;co_reg qj;co_op CF.rely hF (co_quiet qj)
 co_opw CF.rely hF (skip) (rw[listed_nil lF];exact zx hF.bs.hC _ rfl)
 replace hF:=hF.alloc k;generalize hN:Array.size (World.heap _)=N at hF⊢;clear hN;co_op CG.rely hF (co_quiet qj);co_apply b_ qj;co_then;co_apply cu qj;co_reg qj;co_op CG.rely hF (co_quiet qj);co_op CG.rely hF (co_quiet qj)
 co_opw CG.rely hF (skip) (co_still qj)
 have hNC:N≠C:=awZ;have hu:∀{w:ah}(h:w.heap[N]?=some (.cells (tK (List.replicate k 0)) 5)),w.cell? ⟨N,i,none⟩=some (.int .u8 0)/\w.frozen? ⟨N,i,none⟩=false:=λh=>⟨by rw[cell_of _ h,yz];simp[hi],wo _ h i⟩
 co_opw CG.rely hF (have hc:=(hu hF.hx).1;have hz:=(hu hF.hx).2) (refine P5 hF.mn hNC (hF.bs.lt hF.mn) ?_;co_evs (exact⟨_,_,rfl,rfl⟩))
 replace hF:=hF.set hb i 1;rw[afQ k i hi]at hF;clear hc hz;co_apply b_ qj;co_then;co_apply cu qj;co_reg qj;co_op CG.rely hF (co_quiet qj);co_op CG.rely hF (co_quiet qj);co_apply b_ qj;co_then;co_apply wpC_ret qj;exact axi
def RoI(Wg C n B:Nat)(Cl:Nat->Prop)(w0:ah)(k i N:Nat)(a:Act)(w:ah):Prop:=
 ∃(j:Nat)(v2 v3 v4 v6 v7 v8 v9 v10 v11 v12 VP Xf S9 PS PU v20 v21 v22 TK v24 TL v26 ZZ v28 v29:ai),j<=k/\CG Wg C n B Cl w0 N (P9 k i j) w/\a=⟨#[.int .i64 ((k:Nat):Int),.int .i64 ((i:Nat):Int),v2,v3,v4,.slice (some ⟨N,0,none⟩) k k,v6,v7,v8,v9,v10,v11,v12,VP,Xf,S9,.int .i64 ((k:Nat):Int),.int .i64 ((j:Nat):Int),PS,PU,v20,v21,v22,TK,v24,TL,v26,ZZ,v28,v29],[]⟩
def muR(k:Nat)(a:Act)(_:ah):Nat:=k-(intOf (a.tmps.getD 17 undef)).toNat
theorem ap9(k i:Nat)(hk:k<=128)(hi:i<128):∃q,∀(w:ah),Bs C B w->
  CallsC prog main (Ro Wg C n B Cl) (Dg Wg C n B Cl) 75 #[.int .i64 ((k:Nat):Int),.int .i64 ((i:Nat):Int)] q w λv w'=>∃N,v=.slice (some ⟨N,0,none⟩) k k/\CG Wg C n B Cl w N ((List.range k).map (sN k i)) w':=by
 obtain⟨hmk,hme⟩:=ah2 k hk;by_cases Jd:i<k
 .obtain⟨qu,hu⟩:=afR (main:=main) (Wg:=Wg) (C:=C) (n:=n) (B:=B) (Cl:=Cl) k i hk Jd;have hiI:(i:Int)<(k:Int):=ag;co_apply Exists.intro;intro w hb;co_apply callsC_of_wpC func75 aF rfl;simp only[ntmps75,fH,dQ,d_,Nat.reduceAdd,Nat.reduceSub,eU,eQ,eH,eP,dw,df];have hF:CF Wg C n B Cl w w:=⟨hb,.refl w⟩;co_apply cu qj;co_reg qj;co_op CF.rely hF (co_quiet qj);co_apply b_ qj;co_then;co_apply cu qj (n₂:=0);co_apply cu qj;co_reg qj;co_op CF.rely hF (co_quiet qj);co_op CF.rely hF (co_quiet qj);co_op CF.rely hF (co_quiet qj);co_apply b_ qj;co_then;co_apply wpC_cond qj (t:=true)
  focus(simp[Act.eval])
  simp only[aY]
  co_go qj CF.rely hF (co_quiet qj)
  co_apply opsC_call qj rfl aF rfl
  .walk_nrm;exact hu _ hF.bs
  rintro v w' ⟨N,rfl,hg⟩;replace hF:CG Wg C n B Cl w N ((List.range k).map (sN k i)) w':=⟨hg.bs,hF.ex.trans hg.ex,bF hF.ex.size hg.lo,hg.mn,hg.hx⟩;clear hg;walk_nrm
  co_go qj CG.rely hF (co_quiet qj)
  exact axi
 .obtain⟨qi,hv⟩:=ap8 (main:=main) (qj (Wg:=Wg) (C:=C) (n:=n) (B:=B) (Cl:=Cl));have hiI:¬((i:Int)<(k:Int)):=ag;co_apply Exists.intro;intro w hb;co_apply callsC_of_wpC func75 aF rfl;simp only[ntmps75,fH,dQ,d_,Nat.reduceAdd,Nat.reduceSub,eU,eQ,eH,eP,dw,df];have hF:CF Wg C n B Cl w w:=⟨hb,.refl w⟩;co_apply cu qj;co_reg qj;co_op CF.rely hF (co_quiet qj);co_apply b_ qj;co_then;co_apply cu qj;co_apply cu qj;co_reg qj;co_op CF.rely hF (co_quiet qj);co_op CF.rely hF (co_quiet qj);co_op CF.rely hF (co_quiet qj);co_apply b_ qj;co_then;co_apply wpC_cond qj (t:=false)
  focus(simp[Act.eval])
  simp only[dm,bU];co_apply wpC_skip qj;co_then;co_apply cu qj;co_reg qj;co_op CF.rely hF (co_quiet qj)
  co_opw CF.rely hF (skip) (rw[listed_nil lF];exact zx hF.bs.hC _ rfl)
  replace hF:=hF.alloc k;rw[<-afP k i]at hF;generalize hN:Array.size (World.heap _)=N at hF⊢;clear hN;have hNC:N≠C:=awZ;co_op CG.rely hF (co_quiet qj);co_apply b_ qj;co_then;co_apply cu qj;co_apply cu qj;co_reg qj;co_op CG.rely hF (co_quiet qj);co_op CG.rely hF (co_quiet qj);co_op CG.rely hF (co_quiet qj);co_apply b_ qj;co_then;co_apply lI qj;co_apply ku qj (RoI Wg C n B Cl w k i N) (muR k) _ k
  .exact⟨0,_,_,_,_,_,_,_,_,_,_,_,_,_,_,_,_,_,_,_,_,_,_,_,_,_,iH _,hF,rfl⟩
  .simp[muR]
  rintro a w' ⟨j,v2,v3,v4,v6,v7,v8,v9,v10,v11,v12,VP,Xf,S9,PS,PU,v20,v21,v22,TK,v24,TL,v26,ZZ,v28,v29,hj,hF,rfl⟩;co_apply cu qj;co_reg qj;co_op CG.rely hF (co_quiet qj);co_apply b_ qj;co_then;co_apply cu qj
  co_split qj (decide ((j:Int)<(k:Int)))
  .intro Oc;have ah3:j<k:=avK;have hjI:(j:Int)<(k:Int):=ag;clear Oc;have att:i^^^j<128:=KO hi ag;have hxr:bits .xor .i64 ((i:Nat):Int) ((j:Nat):Int)=((i^^^j:Nat):Int):=Fh _ _ ag ag;have hcv:IntKind.u8.wrap (((i^^^j:Nat):Int))=((i^^^j:Nat):Int):=by rw[auW];omega
   have hrv:sN k i j=inv (i^^^j):=by unfold sN;rw[au Jd,dB ag]
   co_ctl qj
   co_then
   co_ctl qj
   co_ctl qj
   co_ctl qj
   co_reg qj;co_op CG.rely hF (co_quiet qj);co_op CG.rely hF (co_quiet qj);co_apply b_ qj;co_then;co_reg qj;co_op CG.rely hF (co_quiet qj);co_op CG.rely hF (co_quiet qj);co_op CG.rely hF (co_quiet qj);co_op CG.rely hF (co_quiet qj);co_op CG.rely hF (co_quiet qj);have hce:∀(w:ah)(es:aN),(convert 3 5 (.int .i64 ((i^^^j:Nat):Int))).events prog w es=es:=λw es=>by simp[convert,Conv.intToInt,go_sem,Tryz.runUnderlying3,Tryz.runUnderlying5]
   co_opw CG.rely hF (skip) (co_still qj)
   clear hce;co_apply opsC_call qj rfl aF rfl
   .walk_nrm;exact hv _ _ (show i^^^j<256 by omega)
   rintro v w' ⟨rfl,hs⟩;replace hF:CG Wg C n B Cl w N (P9 k i j) w':=hs.elim (λe=>e▸hF) (λr=>hF.rely r);clear hs;walk_nrm
   co_opw CG.rely hF (skip) (co_still qj)
   have LP:∀{w:ah}(h:w.heap[N]?=some (.cells (tK (P9 k i j)) 5)),w.cell? ⟨N,j,none⟩=some (.int .u8 0)/\w.frozen? ⟨N,j,none⟩=false:=λh=>⟨by rw[cell_of _ h,yz];simp[P9,ah3],wo _ h j⟩
   co_opw CG.rely hF (have hc:=(LP hF.hx).1;have hz:=(LP hF.hx).2) (refine P5 hF.mn hNC (hF.bs.lt hF.mn) ?_;co_evs (exact⟨_,_,rfl,rfl⟩))
   replace hF:=hF.set hb j (inv (i^^^j));rw[show(P9 k i j).set j (inv (i^^^j))=P9 k i (j+1)from by rw[<-hrv,ah0 k i j ah3]]at hF;clear hc hz;co_apply b_ qj;co_then;co_reg qj;co_op CG.rely hF (co_quiet qj);co_op CG.rely hF (co_quiet qj);co_apply b_ qj;co_then;have E8:IntKind.i64.wrap ((j:Int)+1)=((j+1:Nat):Int):=jG;simp only[E8];refine⟨⟨j+1,_,_,_,_,_,_,_,_,_,_,_,_,_,_,_,_,_,_,_,_,_,_,_,_,_,ag,hF,rfl⟩,?_⟩;simp[muR,intOf];omega
  .intro Oc;obtain rfl:j=k:=avL;clear Oc;rw[ah1]at hF
   co_go qj CG.rely hF (co_quiet qj)
   exact axi
end
end Go.Proofs.Y
namespace Go.Proofs.Y
open Go.Proofs.Tryz
open Go.Conc Go.ConcN Go.RowKit Go.Gh Go.Conc.Lib Go.ConcR.Gen Go.ConcN.Gen
open Go.ConcR (Payload)
structure YS where
 ba:Nat
 bj:Nat
 bk:Nat
 bd:Nat
 bD:Nat
 oD:Nat
 cD:Nat
theorem Xn{P:aP}{main:Bool}{R:ah->ah->Prop}{D:ah->ah->aN->Prop}{f:aU}{args:aH}{n m:Nat}{w:ah}{Post:ai->ah->Prop}(h:CallsC P main R D f args n w Post)(hn:n<=m):CallsC P main R D f args m w Post:=
 let⟨fn,c,h1,h2,h3,h4⟩:=h
 ⟨fn,c,h1,h2,h3,wpC_more h4 hn⟩
section
variable [Payload][qR]{main:Bool}{Wg C n B:Nat}{Cl:Nat->Prop}
structure WIc(Wg C n B:Nat)(c:YS)(k L idx:Nat)(cs:List Um)(w:ah):Prop where
 bs:Bs C B w
 pay:PayAt C n w
 ra:Sj Wg C B w c.ba
 va:w.cell? ⟨c.ba,0,none⟩=some (.slice (some ⟨C,0,none⟩) n n)
 rj:Sj Wg C B w c.bj
 vj:w.cell? ⟨c.bj,0,none⟩=some (.int .i64 ((idx:Nat):Int))
 rk:Sj Wg C B w c.bk
 vk:w.cell? ⟨c.bk,0,none⟩=some (.int .i64 ((k:Nat):Int))
 rd:Sj Wg C B w c.bd
 vd:w.cell? ⟨c.bd,0,none⟩=some (.slice (some ⟨c.bD,c.oD,none⟩) k c.cD)
 rc:Sj Wg C B w c.bD
 hc:∀j d,cs[j]?=some d->w.cell? ⟨c.bD,c.oD+j,none⟩=some (.slice d.bs L d.co)
 yf:∀d∈cs,Sj Wg C B w d.bo/\(0<L->d.bs=some ⟨d.bo,d.oo,none⟩)/\∀i y,d.ys[i]?=some y->w.cell? ⟨d.bo,d.oo+i,none⟩=some (.int .u8 ((y:Nat):Int))
theorem WIc.ex{w w₁:ah}{c:YS}{k L idx:Nat}{cs:List Um}(h:WIc Wg C n B c k L idx cs w)(hb:Bs C B w₁)(r:Ex Wg C n B Cl (λ_=>False) w w₁):WIc Wg C n B c k L idx cs w₁:=by
 have st:∀{b:Nat},Sj Wg C B w b->∀o,w₁.cell? ⟨b,o,none⟩=w.cell? ⟨b,o,none⟩:=λhb o=>ava
 exact⟨hb,r.pay h.pay,r.rdb h.ra,(st h.ra _).trans h.va,r.rdb h.rj,(st h.rj _).trans h.vj,r.rdb h.rk,(st h.rk _).trans h.vk,r.rdb h.rd,(st h.rd _).trans h.vd,r.rdb h.rc,λj d e=>(st h.rc _).trans (h.hc j d e),λd hd=>let⟨h1,h2,h3⟩:=h.yf d hd;⟨r.rdb h1,h2,λi y e=>(st h1 _).trans (h3 i y e)⟩⟩
theorem WIc.rely{w w₁:ah}{c:YS}{k L idx:Nat}{cs:List Um}(h:WIc Wg C n B c k L idx cs w)(r:Ro Wg C n B Cl w w₁):WIc Wg C n B c k L idx cs w₁:=h.ex (h.bs.rely r) r.ex
theorem WIc.cin{w:ah}{c:YS}{k L idx N:Nat}{ws:aC}{cs:List Um}(h:WIc Wg C n B c k L idx cs w)(hm:qQ w N)(hx:w.heap[N]?=some (.cells (tK ws) 5)):CIn Wg C B N 0 c.bD c.oD L ws cs w:=
 ⟨.inl hm,h.bs.lt hm,h.rc,h.bs.zS h.rc,λj x e=>by rw[bJ,cell_of _ hx,yz,e];rfl,h.hc,λd hd=>let⟨h1,h2,h3⟩:=h.yf d hd;⟨h1,h.bs.zS h1,h2,h3⟩⟩
def w0C:aS:=baseD 84
noncomputable def Oz:aS:={(default:aS)with fn:=prog.funcs.size,defers:=[],mode:=.panicking [goexitEntry]}
noncomputable def acU:Code:=Tryz.f84.body.getD .skip
def KP(Wg:Nat)(c:YS):aH:=#[.pointer (some ⟨Wg,0,none⟩),.pointer (some ⟨c.bk,0,none⟩),.pointer (some ⟨c.bj,0,none⟩),.pointer (some ⟨c.bd,0,none⟩),.pointer (some ⟨c.ba,0,none⟩)]
def Un(Wg:Nat)(c:YS):Deferred:={target:=.fn (.func 84) (KP Wg c),args:=#[]}
omit [Payload][qR]in
theorem alm(c:YS)(w:ah):stepG prog false (born prog (Un Wg c)) w=.go (G (w0C.at ⟨KP Wg c++Array.replicate 8 undef,[]⟩ [.code acU]) [Oz]) w #[]:=by simp[born,Un,KP,stepG,unwind,callDeferred,invoke,callFunc,func84,Tryz.f84,seen,GStep.after,G,Frame.enter,Frame.at,w0C,baseD,Oz,acU]
omit [Payload][qR]in
theorem ah4(T:aH):QuitsD prog 2 0 (G {w0C.at ⟨T,[]⟩ []with mode:=.returning} [Oz]):=by
 refine QuitsD.ctl (g':=G Oz []) rfl (λw=>?_) ?_
 .simp[G,stepG,unwind,doReturn,results,Frame.at,w0C,baseD,Oz,func84,Tryz.f84,seen,GStep.after,goexitEntry]
 refine QuitsD.ctl (g':={G Oz []with status:=.finished}) rfl (λw=>?_) ⟨rfl,rfl⟩;simp[G,stepG,unwind,Oz,goexitEntry,Frame.catches];rfl
theorem an0(k L:Nat)(V4:0<k)(hk:k<=128)(hn:n<=128)(hL:L<=140737488355328)(idx:Nat)(akO:idx<n):∃m,∀(w:ah)(c:YS)(cs:List Um)(res:Nat->aC),cs.length=k->(∀c∈cs,Dc c.ys L/\∀y∈c.ys,y<256)->
  res idx=comb (E_ ((List.range k).map (sN k idx)) cs) (List.replicate L 0)->WIc Wg C n B c k L idx cs w->Wk prog link.tWg Wg C n B (Xo C L res) idx m (born prog (Un Wg c)) w:=by
 obtain⟨q1,hq1⟩:=ap9 (main:=false) (Wg:=Wg) (C:=C) (n:=n) (B:=B) (Cl:=(· =idx)) k idx hk ag;obtain⟨q2,Yy⟩:=Xp (main:=false) (Wg:=Wg) (C:=C) (n:=n) (B:=B) (Cl:=(· =idx)) k L V4 hk hL;refine⟨?m,λw c cs res hlc hcs F9 hF=>?_⟩
 case m=>exact(3+(9*(max q1 q2+3)+1+1))+1+1+1+1+1
 have hiI:(idx:Int)<(n:Int):=ag;have T:=qj (Wg:=Wg) (C:=C) (n:=n) (B:=B) (Cl:=(· =idx));have hlr:Dc ((List.range k).map (sN k idx)) k:=by simp[Dc]
 have Yz:∀x∈(List.range k).map (sN k idx),x<256:=λx hx=>by obtain⟨j,_,rfl⟩:=gI.1 hx;exact Am
 unfold Wk;refine aQ rfl λw₁ h₁=>?_
 replace hF:=hF.rely h₁;clear h₁;rw[alm];refine⟨T.idle _,?_⟩;simp only[KP,acU,Tryz.f84,bf,eU,eQ,eH,eP,dw,df];refine aQ rfl λw₁ h₁=>?_
 replace hF:=hF.rely h₁;clear h₁;rw[aX];refine⟨T.idle _,?_⟩;refine aQ rfl λw₁ h₁=>?_
 replace hF:=hF.rely h₁;clear h₁;rw[dW];refine⟨T.idle _,?_⟩;simp only[fH,dQ,d_,bJ,List.range,List.range.loop];refine aQ rfl λw₁ h₁=>?_
 replace hF:=hF.rely h₁;clear h₁;rw[stepG_defer rfl rfl aB rfl];refine⟨T.idle _,?_⟩;walk_nrm;refine aQ rfl λw₁ h₁=>?_
 replace hF:=hF.rely h₁;clear h₁;rw[bg];refine⟨T.idle _,?_⟩;refine wpC_goes (m:=3) (Q:=λe a' w'=>e=.normal/\a'.defers=[dcall 80 #[.pointer (some ⟨Wg,0,none⟩)]]/\∃v,WD1 C L res idx v w') (Aj T aeI (S:=WIc Wg C n B c k L idx cs) (lst:=8) (nf:=max q1 q2) ak (λw₁ h₁=>?_)) rfl aB ?_
 .replace hF:WIc Wg C n B c k L idx cs {w₁ with drawn:=w₁.drawn+1}:=by
   have:=hF.rely h₁;exact⟨⟨this.bs.tg,this.bs.hC,this.bs.hB,this.bs.ow⟩,this.pay,this.ra,this.va,this.rj,this.vj,this.rk,this.vk,this.rd,this.vd,this.rc,this.hc,this.yf⟩
  clear h₁;have NW:∀x y,WIc Wg C n B c k L idx cs x->Ro Wg C n B (· =idx) x y->WIc Wg C n B c k L idx cs y:=λ_ _ h r=>h.rely r
  have RS:∀(a:Act)(x y:ah),(Exit.normal=.normal/\a.defers=[dcall 80 #[.pointer (some ⟨Wg,0,none⟩)]]/\∃v,WD1 C L res idx v x)->Ro Wg C n B (· =idx) x y->(Exit.normal=.normal/\a.defers=[dcall 80 #[.pointer (some ⟨Wg,0,none⟩)]]/\∃v,WD1 C L res idx v y):=λa x y ⟨h1,h2,v,h3⟩ r=>⟨h1,h2,v,h3.rely r⟩
  generalize{w₁ with drawn:=w₁.drawn+1}=w2 at hF⊢;simp only[fH,dQ,d_,Nat.reduceAdd,bJ]
  (co_applyP su T NW RS (i:=0) rfl ak ak ak ak ak (.inl ⟨aF,λ_ hw=>⟨run_eq_of ?aav,?Uo⟩⟩) hF ?ah5
   case aav=>
    intro Kq uI
    (have h1:=hw.va)
    exact axa
   case Uo=>
    (have h1:=hw.va)
    (refine tH hw.ra (hw.bs.zS hw.ra) ?_;co_evs (exact⟨_,rfl,rfl⟩))
   try walk_nrm)
  (co_applyP su T NW RS (i:=1) rfl ak ak ak ak ak (.inl ⟨aF,λ_ hw=>⟨run_eq_of ?aaw,?Ur⟩⟩) hF ?ah6
   case aaw=>
    intro Kq uI
    (have h1:=hw.vj)
    exact axa
   case Ur=>
    (have h1:=hw.vj)
    (refine tH hw.rj (hw.bs.zS hw.rj) ?_;co_evs (exact⟨_,rfl,rfl⟩))
   try walk_nrm)
  (co_applyP su T NW RS (i:=2) rfl ak ak ak ak ak (.inl ⟨aF,λ_ hw=>⟨run_eq_of ?aax,?Us⟩⟩) hF ?ah7
   case aax=>
    intro Kq uI
    (have h1:=hw.vk)
    exact axa
   case Us=>
    (have h1:=hw.vk)
    (refine tH hw.rk (hw.bs.zS hw.rk) ?_;co_evs (exact⟨_,rfl,rfl⟩))
   try walk_nrm)
  (co_applyP su T NW RS (i:=3) rfl ak ak ak ak ak (.inl ⟨aF,λ_ hw=>⟨run_eq_of ?aay,?Ut⟩⟩) hF ?ah8
   case aay=>
    intro Kq uI
    (have h1:=hw.vj)
    exact axa
   case Ut=>
    (have h1:=hw.vj)
    (refine tH hw.rj (hw.bs.zS hw.rj) ?_;co_evs (exact⟨_,rfl,rfl⟩))
   try walk_nrm)
  (co_applyP su T NW RS (i:=5) rfl ak ak ak ak ak (.inl ⟨aF,λ_ hw=>⟨run_eq_of ?ah9,?acV⟩⟩) hF ?an1
   case ah9=>
    intro Kq uI
    (have h1:=hw.vd)
    exact axa
   case acV=>
    (have h1:=hw.vd)
    (refine tH hw.rd (hw.bs.zS hw.rd) ?_;co_evs (exact⟨_,rfl,rfl⟩))
   try walk_nrm)
  refine Gq (i:=4) ak ⟨_,rfl,.inr (.inl ⟨aF,_,_,_,(λv w'=>∃N,v=.slice (some ⟨N,0,none⟩) k k/\CG Wg C n B (· =idx) w2 N ((List.range k).map (sN k idx)) w'),rfl,by walk_nrm;exact Xn (hq1 w2 hF.bs) (oP _ _),?_⟩)⟩;rintro v w3 ⟨N1,rfl,Ko⟩;replace hF:=hF.ex Ko.bs Ko.ex;refine⟨λ_=>hF,?_⟩;walk_nrm;refine Gq (i:=6) ak ⟨_,rfl,.inr (.inl ⟨aF,_,_,_,(λv w'=>∃N,v=.slice (some ⟨N,0,none⟩) L L/\CG Wg C n B (· =idx) w3 N (comb (E_ ((List.range k).map (sN k idx)) cs) (List.replicate L 0)) w'),rfl,by walk_nrm;exact Xn (Yy w3 N1 0 k c.bD c.oD c.cD _ cs hlr hlc Yz hcs hF.bs (hF.cin Ko.mn Ko.hx)) (oO _ _),?_⟩)⟩;rintro v w' ⟨N,rfl,hg⟩;have hN:N≠C:=awX;replace hF:=hF.ex hg.bs hg.ex;have hwp:Xo C L res idx (.slice (some ⟨N,0,none⟩) L L) w':=⟨N,rfl,hg.mn,hN,by rw[F9];exact hg.hx⟩;clear hg;refine⟨λ_=>hF,?_⟩;walk_nrm;refine Bi (i:=7) ak rfl aF (λw₁ hR K hK=>?_);replace hF:=hF.rely hR;replace hwp:=hwp.rely hR;clear hR;go_simp;refine hK _ _ ⟨?_,λ_=>hF,?_⟩
  .co_still T
  clear hK K;walk_nrm;refine Bi (i:=8) ak rfl aF (λw₁ hR K hK=>?_);replace hF:=hF.rely hR;replace hwp:=hwp.rely hR;clear hR
  obtain⟨u,hu1,hu2⟩:∃u,w₁.cell? ⟨C,idx,none⟩=some u/\w₁.frozen? ⟨C,idx,none⟩=false:=by exact ayn
  go_simp
  try(unfold stored;go_simp)
  refine hK _ _ ⟨?_,λh=>absurd rfl h,?_⟩
  .refine YT (Cl:=(· =idx)) hF.pay hF.bs.hC (i:=idx) rfl _ ?_
   co_evs (exact⟨_,rfl⟩)
  clear hK K;walk_nrm;refine KH ak ⟨rfl,rfl,.slice (some ⟨N,0,none⟩) L L,⟨N,rfl,?_,hN,?_⟩,Uu hF.pay akO _⟩ _
  .exact ayQ
  .exact ax_
 .rintro e a' w' ⟨rfl,hd,v,hk⟩;show Goes _ _ _ _ _ 3 (G (w0C.at a' []) [Oz]) w';refine aQ rfl λw₁ h₁=>?_
  replace hk:=hk.rely h₁;clear h₁;rw[stepG_end];refine⟨T.idle _,?_⟩;refine aQ rfl λw₁ h₁=>?_
  replace hk:=hk.rely h₁;clear h₁;rw[stepG_unwind_enter hd func80 (nm_done link) rfl];refine⟨T.idle _,?_⟩;refine dC λw₁ h₁=>?_
  replace hk:=hk.rely h₁;clear h₁;refine⟨rfl,v,hk.wp,hk.has,λW h1 h2=>?_⟩;have hA:=@doneN _ link prog Nc NoF NoF Wg C n 0 (idx+1) v;have:=hA (c:={w0C.at ⟨a'.tmps,[]⟩ []with mode:=.returning}) (cs:=[Oz]) (qt:=2) rfl (ah4 a'.tmps) W ⟨h1,jE⟩;exact this
