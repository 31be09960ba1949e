import Derived.Test.YtnbflnamlpodcaaGreatDoorHoC
set_option maxHeartbeats 8000000
set_option maxRecDepth 100000
namespace Go.Proofs.Y
open Go.Proofs.Tryz
open Go.RowKit Go.Deep Go.Lf Go.Conc Go.Hp
def aj0(K:Act->ah->Prop):Exit->Act->ah->Prop:=λe a w=>match e with
 | .normal=>K a w
 |_=>False
theorem afw{P:aN}{c:Code}{Q:Exit->Act->ah->Prop}{a:Act}{w:ah}(h:c.wp P (aj0 (Q .normal)) a w):c.wp P Q a w:=
 Code.wp_mono (λe a w hq=>by cases e<;>first|exact hq|exact hq.elim) h
theorem apF:Qg=.seq (qM Qg) (.seq (qM (qA Qg)) Dc):=aj
section
variable {X:Nat->Prop}{Y:Nat->aV}{D:Nat->ah->aH->Prop}{Stop:aG->ah->Prop}{w:ah}
theorem aj1(rM:uU X D){vr x4 x5:ai}{k n c:Int}{zr:di}(hr:Uc w vr zr)(hlr:zr.length<9223372036854775807)(hk:Jg k)(hn:Jg n)(hc:Jg c)
  (qJ:∀(T:aB)(m:Nat)(f:Nat->qX)(Dt:Nat->ak)(pb:Nat)(vb:ai)(w':ah),TH0 pb x4 x5 vb undef T->WL (LY k n) (zy n) (Pm c) m f Dt pb vb w'->sH w.heap.size w w'->
   rC prog X Y D Stop none [] 5 [] [.code Qg] T w'):
  uA prog X Y D Stop 5 [] [.code uj] ⟨#[vr,.int .i64 k,.int .i64 n,.int .i64 c,x4,x5]++Array.replicate 244 undef,[]⟩ w:=by
 rw[agZ];simp only[dR,dQ,dM,dP,dA,bT];refine rf qP rM aj rfl Gq λR hR τ d'=>?_
 have bl:sH w.heap.size w {w with tape:=τ,drawn:=d'}:=(sH.refl _ w).tp τ d';generalize({w with tape:=τ,drawn:=d'}:ah)=wA at bl⊢;simp only[qM,uj,Tryz.f5,aQ];go_wp2;refine rf qP rM aj rfl Gq λR hR τ d'=>?_
 replace bl:=bl.tp τ d';generalize({wA with tape:=τ,drawn:=d'}:ah)=wB at bl⊢;have kp:=abR k n c hk hn hc;simp only[prm]at kp;simp only[qM,qA,uj,Tryz.f5,aQ];generalize hkk:LY k n=kk at*;generalize hnn:zy n=nn at*;generalize hcc:Pm c=cc at*
 go_wp2_with(first|(go_at_call 6;(with_reducible refine(kp _).mono ?_);rintro r w1 ⟨rfl,uu⟩))
 clear kp;have EE:=ql.made w1 [.int .i64 ((kk:Nat):Int),.int .i64 ((nn:Nat):Int),.int .i64 ((cc:Nat):Int)] 24;have LX:=(bl.trans (sH.of uu) bl.sN).trans (sH.of ((aT w1.heap.size w1).alloc (az _) (.cells #[.int .i64 ((kk:Nat):Int),.int .i64 ((nn:Nat):Int),.int .i64 ((cc:Nat):Int)] 24))) (bu bl.sN uu.size);clear uu bl;change ql (w1.alloc (.cells #[.int .i64 ((kk:Nat):Int),.int .i64 ((nn:Nat):Int),.int .i64 ((cc:Nat):Int)] 24)) _ _ _ at EE;generalize w1.alloc (.cells #[.int .i64 ((kk:Nat):Int),.int .i64 ((nn:Nat):Int),.int .i64 ((cc:Nat):Int)] 24)=w2 at EE LX⊢;generalize w1.heap.size=pb at EE LX⊢;refine rf qP rM aj rfl Gq λR hR τ d'=>?_
 replace LX:=LX.tp τ d';replace EE:ql ({w2 with tape:=τ,drawn:=d'}:ah) pb [.int .i64 ((kk:Nat):Int),.int .i64 ((nn:Nat):Int),.int .i64 ((cc:Nat):Int)] 24:=EE;generalize({w2 with tape:=τ,drawn:=d'}:ah)=w2 at LX EE⊢;have ka:=aaO vr zr w2 (hr.AO LX (az _)) hlr;simp only[qM,qA,uj,Tryz.f5,aQ]
 go_wp2_with(first|(go_at_call 7;(with_reducible refine ka.mono ?_);rintro r w3 ⟨vb,m,f,Dt,rfl,hm,hA⟩))
 clear ka;exact qJ _ m f Dt pb vb w3 ⟨_,Af rfl⟩ ⟨EE.later (S:=λ_=>False) (.qF hA.AO) EE.lt id,⟨_,hA.own⟩,hA.nm,hA.len,hA.dat,hm⟩ (LX.trans (sH.of hA.AO) LX.sN)
variable {K N C m:Nat}{f:Nat->qX}{Dt:Nat->ak}{pb:Nat}{bo:aY}{cap:Nat}{x4 x5 vo:ai}{T:aB}
def atm(h m:Nat)(w:ah)(Dt:Nat->ak)(Qa Oh:ai)(wr:ah):Prop:=∃(i:Nat)(f:Nat->qX)(D:Nat->ak),i<=m/\Oh=.int .i64 ((i:Nat):Int)/\ArI h w i f D Qa wr/\∀j,j<i->(D j).length=(Dt j).length
theorem apG(rM:uU X D)(hT:TH0 pb x4 x5 (.slice bo m cap) vo T)(hS:WL K N C m f Dt pb (.slice bo m cap) w)(hA:WX w bo m cap f (Ld Dt))
  (qJ:∀(T':aB)(f':Nat->qX)(Dt':Nat->ak)(vo':ai)(w':ah),TH0 pb x4 x5 (.slice bo m cap) vo' T'->WL K N C m f' Dt' pb vo' w'->(∀j,j<m->(Dt' j).length=(Dt j).length)->sH w.heap.size w w'->
   rC prog X Y D Stop none [] 5 [] [.code Dc] T' w'):
  rC prog X Y D Stop none [] 5 [] [.code Qg] T w:=by
 obtain⟨g,rfl⟩:=hT;unfold Xj;rw[apF];have hBl:=ZF hS hA;refine qy rM (rF qP rM aj Gq λR hR τ d=>?_);have bl:sH w.heap.size w {w with tape:=τ,drawn:=d}:=(sH.refl _ w).tp τ d;generalize({w with tape:=τ,drawn:=d}:ah)=wA at bl⊢;simp only[Qg,qM,qA,uj,Tryz.f5,aQ];go_wp2;refine qy rM (rF qP rM aj Gq λR hR τ d=>?_);replace bl:=bl.tp τ d;generalize({wA with tape:=τ,drawn:=d}:ah)=wB at bl⊢;simp only[Qg,qM,qA,uj,Tryz.f5,aQ];obtain⟨i0,Ak,yz,xA,wH⟩:=dm BJ;obtain⟨i1,KQ,hy0,hy1,hy2⟩:=dm Tryz.Jn;have bs:=tq bl;have Tm:=hS.nm;have Me:=hS.len;have hm5:=hS.hm;have hdl:∀j,j<m->Ld Dt (f j)=Dt j:=λj hj=>NC Dt ag (Tm j hj)
 have start:ArI wB.heap.size wB 0 (λ_=>⟨[],none,0,0⟩) (λ_=>[]) (.slice none 0 0) wB:=⟨dK _ _ _ _,λj hj=>absurd hj ag,λj hj=>absurd hj ag,λj hj=>absurd hj ag,aT _ _⟩;obtain⟨h,hh⟩:∃h,wB.heap.size=h:=⟨_,rfl⟩;rw[hh]at start;have HH:Hid (wB.heap.size=h):=hh;clear hh;go_wp2
 go_loopw [15,16] (λQa Oh wr=>atm h m wB Dt Qa Oh wr) (λ_ Oh _=>m-(intOf Oh).toNat)
 case atStart=>exact⟨0,_,_,ag,rfl,start,λj hj=>absurd hj ag⟩
 case round=>
  clear start
  rename ah=>wO
  obtain⟨i,f2,D2,hi,rfl,H,hl2⟩:=hrel;have hs:h<=wO.heap.size:=by rw[<-HH.out];exact H.AO.size
  by_cases qK:i<m
  .have Am:(i:Int)<(m:Int):=ag;have apH:=bs.trans (tq (sH.of ayb));obtain⟨b,o,rfl,hc⟩:=hBl.cells ag;have n0:=apH.cell (hc i qK).1;have n1:=apH.cell (hc i qK).2;have hli:=apH.lies (hBl.dat i qK);rw[hdl i qK]at hli;obtain⟨bq,cq,ev⟩:=hli.len;rw[Tm i qK]at n0;generalize hvd:(f i).d=vd0 at*;subst ev;have hsz:=Me i qK;have atn:(sJ (Dt i)).length=(Dt i).length:=eX;obtain⟨sz,esz⟩:∃sz,(sJ (Dt i)).length=sz:=⟨_,rfl⟩;have HSZ:Hid ((sJ (Dt i)).length=sz):=esz;have XV:sz<14:=ag;rw[esz]at n1 hli;clear esz atn;go_wp2;have Jj:BlI i wO.heap.size wO [] (.slice none 0 0) (wO.alloc (.cells #[rH (wU i),.slice none 0 0] 44)):=⟨ql.made wO [rH (wU i),.slice none 0 0] 44,dK _ _ _ _,(aT _ _).alloc (az _) _,az _⟩;simp only[rH]at Jj;generalize wO.alloc (.cells #[.string ⟨(wU i).toArray⟩,.slice none 0 0] 44)=ws at Jj⊢;obtain⟨p2,ep2⟩:∃p,wO.heap.size=p:=⟨_,rfl⟩;rw[ep2]at Jj⊢;have HP:Hid (wO.heap.size=p2):=ep2;clear ep2
   go_loopw [18] (λvk wq=>∃(k:Nat)(L:ak)(vd:ai),k<=sz/\k=L.length/\vk=.int .i64 ((k:Nat):Int)/\BlI i p2 wO L vd wq) (λvk _=>sz-(intOf vk).toNat)
   case atStart=>exact⟨0,[],_,ag,rfl,rfl,Jj⟩
   case round=>
    clear Jj;obtain⟨k,L,vd,hk,rfl,rfl,hB⟩:=hrel;have apI:=tq (sH.of hB.AO);have m1:=apI.cell n1;have m0:=apI.cell n0;have c0:=hB.row.cell (i:=0) rfl;have c1:=hB.row.cell (i:=1) rfl;simp only[rH]at c0;by_cases hks:L.length<sz
    .have aov:(L.length:Int)<(sz:Int):=ag;have hLD:L.length<(Dt i).length:=aya;obtain⟨b1,o1,rfl,n2⟩:=(apI.lies hli).get (j:=L.length) (u:=.int .u8 (tZ (Dt i) L.length:Int)) (wJ hLD);have hbx:=EG (Dt i) L.length;generalize tZ (Dt i) L.length=xb at n2 hbx;have hL1:((L.length:Int)+1)=((L.length+1:Nat):Int):=ag;have dx:bits .xor .u8 (xb:Int) ((L.length:Int)+1)=((xb^^^(L.length+1):Nat):Int):=by rw[hL1];exact u8_xor_nat xb (L.length+1) hbx ag
     have dw:IntKind.u8.wrap ((L.length:Int)+1)=(L.length:Int)+1:=by exact IntWalk.u8_in _ ag
     have dw2:IntKind.i64.wrap ((L.length:Int)+1)=(L.length:Int)+1:=iw;have hy:xb^^^(L.length+1)<256:=iQ (n:=8) hbx ag;generalize xb^^^(L.length+1)=y at dx hy;have c1':=((aT wr.heap.size wr).alloc (az _) (.cells #[.int .u8 (y:Int)] 5)).cell (p:=⟨p2,1,none⟩) (rG c1);rw[c1]at c1';have m1':=((aT wr.heap.size wr).alloc (az _) (.cells #[.int .u8 (y:Int)] 5)).cell (p:=⟨b,o+i*2+1,none⟩) (rG m1);rw[m1]at m1';have n2':=((aT wr.heap.size wr).alloc (az _) (.cells #[.int .u8 (y:Int)] 5)).cell (p:=⟨b1,o1+L.length,none⟩) (rG n2);rw[n2]at n2';clear hL1 m0 n0 n1
     go_wp2_with fail
     refine afw ?_
     go_region_law ((refine JV rfl _ _ 34 rfl (p2+1) 5 i0 (.int .u8 0) 1 1 underlying34 Ak yz xA wH rfl aC _ _ _ rfl ((hB.own.alloc _).drew) ⟨wr.heap.size,0,none⟩ 1 1 [.int .u8 (y:Int)] rfl rfl (zA _ _ _) (ade _) dB ag awX ?_;intro v' w1 xJ sO _;obtain⟨gg,cc,rfl,_,_⟩:=xJ.form ag;have xW:(wr.alloc (.cells #[.int .u8 (y:Int)] 5)).grownBy w1 vd.ownBlock:=⟨sO.os,sO.tape,sO.output,sO.size,sO.block⟩;have xK:=hB.alQ xW;have d0:=xK.cell (i:=0) rfl;have d1:=xK.cell (i:=1) rfl;have f1:=xK.frozen 1;have Ap:=hB.add (UInt8.ofNat y) axW xW;simp only[rH]at d0;clear xJ sO xW xK c0 c1 c1'))
     all_goals
      unfold aj0;go_wp2;exact⟨⟨L.length+1,L++[UInt8.ofNat y],_,ag,ax,ax,Ap⟩,gG⟩
    .have aov:¬((L.length:Int)<(sz:Int)):=ag;obtain⟨e,he1,he2,ho,hd,hdd,WR⟩:=H.next hB hs;rw[<-he2]at c1;simp only[qX.d]at c1;have hpb:=hB.row.lt;have hwh:h<=wr.heap.size:=by rw[<-HH.out];exact WR.size
     have hLl:L.length=(Dt i).length:=aya;clear hB he2
     go_wp2_with(at_builtin;go_loud (refine eP _ rfl _ _ 26 rfl h 44 i1 (.agg #[.string ⟨#[]⟩,.slice none 0 0]) 2 40 underlying26 KQ hy0 hy1 hy2 rfl aC _ _ _ rfl (ho.alloc _) ⟨wr.heap.size,0,none⟩ 1 1 [.string ⟨(wU i).toArray⟩,.slice e.a e.l e.c] rfl rfl (cell_two_new _ _ _ _) (UC _ _ _ _) dB ag aS ?_;intro v' w1 xJ sO _))
     refine⟨⟨i+1,λj=>if j=i then e else f2 j,λj=>if j=i then L else D2 j,ag,ax,H.add xJ sO he1 ag hd hdd WR ho hwh,λj hj=>?_⟩,gG⟩;by_cases q:j=i
     .simp only[q,aX];exact hLl
     .simp only[au q];exact hl2 j ag
  .obtain rfl:i=m:=ag;have Hg:¬((i:Int)<(i:Int)):=ag;go_wp2;have tX:sH w.heap.size w wO:=bl.trans (sH.of ayb) bl.sN;exact qJ _ f2 D2 _ wO ⟨_,Af rfl⟩ ⟨(hS.AO tX (az _)).par,⟨_,H.own⟩,H.nm,H.len,H.dat,hm5⟩ hl2 tX
end
theorem amU:Ag=.seq (qM Ag) (.seq (qM (qA Ag)) (.seq (qM (qA (qA Ag))) (.seq (qM (qA (qA (qA Ag)))) (.seq (qM (qA (qA (qA (qA Ag))))) (.seq (qM (qA (qA (qA (qA (qA Ag)))))) Jc))))):=aj
def BQ{α:Type}(mx:Nat)(a b:Nat->α)(i:Nat):α:=if mx/2^i%2=1 then b i else a i
def Spo(x i:Nat)(z z':ak):Prop:=if i=x then z'.length=z.length/\Bst (vl z^^^vl z')/\z'≠z else z'=z
section
variable {X:Nat->Prop}{Y:Nat->aV}{D:Nat->ah->aH->Prop}{Stop:aG->ah->Prop}{w:ah}
variable {K N C pb ba bc:Nat}{vb:ai}{z4 z5:Int}{oa oc:Nat->ai}{Ba Bc:Nat->ak}{T:aB}
theorem apJ(rM:uU X D)(hT:TH2 pb (.int .i64 z4) (.int .i64 z5) vb (.slice (some ⟨ba,0,none⟩) N N) (.slice (some ⟨bc,0,none⟩) N N) T)(EX:ql w pb [.int .i64 ((K:Nat):Int),.int .i64 ((N:Nat):Int),.int .i64 ((C:Nat):Int)] 24)(h4:Jg z4)(h5:Jg z5)(hN1:1<=N)(hN:N<=12)
  (hca:∀i,i<N->w.cell? ⟨ba,i,none⟩=some (oa i)) (hoa:∀i,i<N->rO 0 w (oa i) (Ba i)) (hcc:∀i,i<N->w.cell? ⟨bc,i,none⟩=some (oc i)) (hoc:∀i,i<N->rO 0 w (oc i) (Bc i)) (hlen:∀mx i,i<N->0<(BQ mx Ba Bc i).length/\(BQ mx Ba Bc i).length<=10000000000)
  (qJ:∀(T':aB)(mx x b cp:Nat)(sv:Nat->ai)(sb:Nat->ak)(w':ah),TH3 pb vb (.int .i64 (mx:Int)) (.slice (some ⟨b,0,none⟩) N cp) (.int .i64 (x:Int)) T'->mx<2^N->sH w.heap.size w w'->SlB w' (some ⟨b,0,none⟩) N sb sv->(∀i,i<N->Spo x i (BQ mx Ba Bc i) (sb i))->
   rC prog X Y D Stop none [] 5 [] [.code Jc] T' w'):
  rC prog X Y D Stop none [] 5 [] [.code Ag] T w:=by
 obtain⟨g,rfl⟩:=hT;unfold Xj;rw[amU];refine qy rM (rF qP rM aj Gq λR hR τ d=>?_);have c1:({w with tape:=τ,drawn:=d}:ah).cell? ⟨pb,1,none⟩=some (.int .i64 (N:Int)):=EX.cell (i:=1) rfl;have bl:sH w.heap.size w {w with tape:=τ,drawn:=d}:=(sH.refl _ w).tp τ d;generalize({w with tape:=τ,drawn:=d}:ah)=wA at bl c1⊢;simp only[Ag,BR,Dc,Qg,qM,qA,uj,Tryz.f5,aQ];go_wp2;refine qy rM (rF qP rM aj Gq λR hR τ d=>?_);replace c1:({wA with tape:=τ,drawn:=d}:ah).cell? ⟨pb,1,none⟩=some (.int .i64 (N:Int)):=c1;replace bl:=bl.tp τ d;generalize({wA with tape:=τ,drawn:=d}:ah)=wB at bl c1⊢;have auU:(N:Int)<=64:=ag;have h2N:2^N<9223372036854775808:=jw (kN (n:=2) ag hN) aC
 have e1:IntKind.i64.wrap ((2:Int)^N)=(2:Int)^N:=by have:((2:Int)^N)=((2^N:Nat):Int):=ax;rw[this];generalize 2^N=t at h2N;rw[fO];omega
 have kp:=Dq z4 (2^N) ((2:Int)^N) ax h4.1 h4.2 (Nat.two_pow_pos N) h2N;have ahT:yI z4 (2^N)<2^N:=yH z4 (Nat.two_pow_pos N);generalize yI z4 (2^N)=mx at kp ahT;simp only[Ag,BR,Dc,Qg,qM,qA,uj,Tryz.f5,aQ]
 go_wp2_with(first|(go_at_call 10;(with_reducible refine(kp _).mono ?_);rintro r w1 ⟨rfl,BB⟩;obtain rfl:=BB.symm))
 clear kp c1 e1;refine qy rM (rF qP rM aj Gq λR hR τ d=>?_);replace bl:=bl.tp τ d;generalize({wB with tape:=τ,drawn:=d}:ah)=w2 at bl⊢;simp only[Ag,BR,Dc,Qg,qM,qA,uj,Tryz.f5,aQ];go_wp2;refine qy rM (rF qP rM aj Gq λR hR τ d=>?_);replace bl:=bl.tp τ d;generalize({w2 with tape:=τ,drawn:=d}:ah)=w5 at bl⊢;simp only[Ag,BR,Dc,Qg,qM,qA,uj,Tryz.f5,aQ];obtain⟨i0,Ak,yz,xA,wH⟩:=dm Tryz.amV;have bs5:=tq bl;have hp5:=(bs5.row EX).cell (i:=1) rfl
 have hoS:∀i,i<N->rO 0 w5 (BQ mx oa oc i) (BQ mx Ba Bc i):=λi hi=>by
  have ka:=rU (hoa i hi) λq hq=>bl.blk (gJ (hoa i hi) q hq).2
  have kc:=rU (hoc i hi) λq hq=>bl.blk (gJ (hoc i hi) q hq).2
  unfold BQ;split
  .exact kc
  .exact ka
 have arF:=λi hi=>bs5.cell (hca i hi)
 have arG:=λi hi=>bs5.cell (hcc i hi)
 have alA:=hlen mx;clear EX hoa hoc hca hcc bs5 hlen;go_wp2
 go_loopw [24,25] (λv24 Qm wr=>∃i:Nat,i<=N/\Qm=.int .i64 (i:Int)/\wr.ownsRow w5.heap.size 34 1 v24 i ((List.range i).map (BQ mx oa oc))/\sH w5.heap.size w5 wr) (λ_ Qm _=>N-(intOf Qm).toNat)
 case atStart=>exact⟨0,ag,rfl,dK _ _ _ _,sH.refl _ _⟩
 case round=>
  obtain⟨i,hi,rfl,hI,hb⟩:=hrel;have DY:=tq hb;have cN:=DY.cell hp5;by_cases qK:i<N
  .have Am:(i:Int)<(N:Int):=ag;have au8:(i:Int)<=64:=ag;have cA:=DY.cell (arF i qK);have cC:=DY.cell (arG i qK);have hO:=hoS i qK;obtain⟨bq,cq,ev⟩:=(qU.owned hO).len;have anK:(BQ mx oa oc i).oneCell'=true:=amW hO;obtain⟨bt,ct',rfl⟩:=uF hI;have aum:=hb.sN;have h2:mx/2^i%2=0\/mx/2^i%2=1:=ag;have alp:=amX (b:=mx) (bG ahT (jf h2N)) i;have hcn:=λx:ai=>Hq wr [x] 34
   have fin:∀(v':ai)(w6:ah),w6.ownsRow w5.heap.size 34 1 v' (i+1) ((List.range i).map (BQ mx oa oc)++[BQ mx oa oc i])->(wr.alloc (.cells #[BQ mx oa oc i] 34)).grownBy w6 (Value.slice bt i ct').ownBlock->w6.ownsRow w5.heap.size 34 1 v' (i+1) ((List.range (i+1)).map (BQ mx oa oc))/\sH w5.heap.size w5 w6:=λv' w6 a1 a2=>
    ⟨by rw[dZ,jh,gU,jU];exact a1,hb.trans (sH.of ((((aT _ wr).alloc (az _) _).mono aum).grown a2 aS (λk hk=>(hI.lt k hk).1))) (az _)⟩
   have amY:(mx/2^i%2=1->BQ mx oa oc i=oc i)/\(mx/2^i%2=0->BQ mx oa oc i=oa i):=⟨λh=>by unfold BQ;rw[ay h],λh=>by unfold BQ;rw[au ag]⟩;generalize hv:BQ mx oa oc i=vv at*;subst ev;rcases h2 with e|e
   .rw[e]at alp;rw[<-amY.2 e]at cA;clear amY
    go_wp2_with(at_builtin;refine eP _ rfl _ _ 28 rfl w5.heap.size 34 i0 (.slice none 0 0) 1 24 underlying28 Ak yz xA wH rfl aC _ _ _ rfl (hI.alloc _) ⟨wr.heap.size,0,none⟩ 1 1 [.slice bq (sJ (BQ mx Ba Bc i)).length cq] rfl rfl (hcn _) (λu hu=>axL) dB ag aS ?_;intro v' w6 Tj sO _;obtain⟨gq,cz,rfl,_,_⟩:=Tj.form ag)
    exact ay7
   .rw[e]at alp;rw[<-amY.1 e]at cC;clear amY
    go_wp2_with(at_builtin;refine eP _ rfl _ _ 28 rfl w5.heap.size 34 i0 (.slice none 0 0) 1 24 underlying28 Ak yz xA wH rfl aC _ _ _ rfl (hI.alloc _) ⟨wr.heap.size,0,none⟩ 1 1 [.slice bq (sJ (BQ mx Ba Bc i)).length cq] rfl rfl (hcn _) (λu hu=>axL) dB ag aS ?_;intro v' w6 Tj sO _;obtain⟨gq,cz,rfl,_,_⟩:=Tj.form ag)
    exact ay7
  .obtain rfl:i=N:=ag;have Hg:¬((i:Int)<(i:Int)):=ag;obtain⟨gq,cz,asD,_,_⟩:=hI.form ag;subst asD;go_wp2;have hoR:∀j,j<i->rO 0 wr (BQ mx oa oc j) (BQ mx Ba Bc j):=λj hj=>rU (hoS j hj) λq hq=>hb.blk (gJ (hoS j hj) q hq).2
   have hB5:w.heap.size<=w5.heap.size:=bl.sN;replace bl:=bl.trans hb bl.sN;clear hb DY hoS arF arG hp5;refine qy rM (rF qP rM aj Gq λR hR τ d=>?_);replace bl:=bl.tp τ d;replace cN:({wr with tape:=τ,drawn:=d}:ah).cell? ⟨pb,1,none⟩=some (.int .i64 (i:Int)):=cN;replace hI:({wr with tape:=τ,drawn:=d}:ah).ownsRow w5.heap.size 34 1 (.slice (some ⟨gq,0,none⟩) i cz) i ((List.range i).map (BQ mx oa oc)):=hI;replace hoR:∀j,j<i->rO 0 ({wr with tape:=τ,drawn:=d}:ah) (BQ mx oa oc j) (BQ mx Ba Bc j):=hoR;generalize({wr with tape:=τ,drawn:=d}:ah)=w6 at bl cN hI hoR⊢;have kp:=Dq z5 (2*i) (2*(i:Int)) ag h5.1 h5.2 ag ag;have hx:yI z5 (2*i)<2*i:=yH z5 ag;generalize yI z5 (2*i)=x at kp hx;simp only[Ag,BR,Dc,Qg,qM,qA,uj,Tryz.f5,aQ]
   go_wp2_with(first|(go_at_call 10;(with_reducible refine(kp _).mono ?_);rintro r w1 ⟨rfl,BB⟩;obtain rfl:=BB.symm))
   clear kp;refine qy rM (rF qP rM aj Gq λR hR τ d=>?_);replace bl:=bl.tp τ d;replace cN:({w6 with tape:=τ,drawn:=d}:ah).cell? ⟨pb,1,none⟩=some (.int .i64 (i:Int)):=cN;replace hI:({w6 with tape:=τ,drawn:=d}:ah).ownsRow w5.heap.size 34 1 (.slice (some ⟨gq,0,none⟩) i cz) i ((List.range i).map (BQ mx oa oc)):=hI;replace hoR:∀j,j<i->rO 0 ({w6 with tape:=τ,drawn:=d}:ah) (BQ mx oa oc j) (BQ mx Ba Bc j):=hoR;generalize({w6 with tape:=τ,drawn:=d}:ah)=w7 at bl cN hI hoR⊢;simp only[Ag,BR,Dc,Qg,qM,qA,uj,Tryz.f5,aQ];by_cases hxi:x<i
   .have ato:(x:Int)<(i:Int):=ag;have hH:=alA x hxi;have kh:=ai8 (BQ mx Ba Bc x) (BQ mx oa oc x) w7 (qU.owned (hoR x hxi)) hH.1 hH.2 z5 z5 h5;have cX:w7.cell? ⟨gq,x,none⟩=some (BQ mx oa oc x):=by rw[hI.cellAt x ag];simp[hxi]
    obtain⟨bq,cq,ev⟩:=(qU.owned (hoR x hxi)).len;have auV:=(hI.lt gq rfl).2;have auW:=(hI.lt gq rfl).1;have auX:=rG cN;generalize hv:BQ mx oa oc x=vv at*;subst ev
    go_wp2_with(first|(go_at_call 13;refine kh.mono ?_;rintro r wa ⟨l',rfl,s1,s2,s3,s4,s5,s6⟩;have hIa:=rU hI λq hq=>s2.block q (gJ hI q hq).2;have cXa:=(s2.cell (p:=⟨gq,x,none⟩) (rG cX)).trans cX;have fXa:=hIa.frozenAt x))
    have uw:=(hIa.stored x (.slice (some ⟨w7.heap.size,0,none⟩) (BQ mx Ba Bc x).length (BQ mx Ba Bc x).length)).1;have hk:∀{y:ai}{u:ak},rO 0 wa y u->rO 0 (wa.setCell ⟨gq,x,none⟩ (.slice (some ⟨w7.heap.size,0,none⟩) (BQ mx Ba Bc x).length (BQ mx Ba Bc x).length)) y u:=λhy=>rU hy λq hq=>jR _ _ _ _ (λe=>D6 hIa hy aC rfl (by rw[hq,e]))
    have hw7:w.heap.size<=w7.heap.size:=bl.sN;refine qJ _ mx x gq cz (λj=>if j=x then .slice (some ⟨w7.heap.size,0,none⟩) (BQ mx Ba Bc x).length (BQ mx Ba Bc x).length else BQ mx oa oc j) (λj=>if j=x then l' else BQ mx Ba Bc j) _ ⟨_,Af rfl⟩ ahT (bl.trans (sH.of ((s2.mono hw7).setCell (p:=⟨gq,x,none⟩) (by show w.heap.size<=gq;omega) _)) (az _)) ⟨λ_=>⟨gq,0,rfl,λj hj=>?_⟩,λj hj=>?_⟩ (λj hj=>?_)
    .rw[bM,uw.cellAt j ag,lZ];by_cases q:j=x
     .subst q;simp[hxi]
     .rw[au (λe=>q e.symm),au q];simp[hj]
    .by_cases q:j=x
     .subst q;simp only[aX];have o1:=hk (amZ s1 s4 dB);exact⟨qU.owned o1,by have:=NU o1;exact this,ag⟩
     .simp only[au q];have o1:=hk (rU (hoR j hj) λb hb=>s2.block b (gJ (hoR j hj) b hb).2);exact⟨qU.owned o1,NU o1,by have:=alA j hj;omega⟩
    .unfold Spo;by_cases q:j=x
     .subst q;rw[ay rfl,ay rfl];exact⟨s4,s5,s6⟩
     .rw[au q,au q]
   .have ato:¬((x:Int)<(i:Int)):=ag;go_wp2;refine qJ _ mx x gq cz (BQ mx oa oc) (BQ mx Ba Bc) w7 ⟨_,Af rfl⟩ ahT bl ⟨λ_=>⟨gq,0,rfl,λj hj=>?_⟩,λj hj=>?_⟩ (λj hj=>?_)
    .rw[bM,hI.cellAt j ag];simp[hj]
    .exact⟨qU.owned (hoR j hj),NU (hoR j hj),by have:=alA j hj;omega⟩
    .unfold Spo;rw[au ag]
end
noncomputable def TN:Code:=qA (qA (qA FD))
noncomputable def arH:Code:=match qA (qM TN)with| .cond _ c _=>c|c=>c
noncomputable def arI:Code:=match qA (qM (qA TN))with| .cond _ c _=>c|c=>c
theorem am0:FD=.seq (qM FD) (.seq (qM (qA FD)) (.seq (qM (qA (qA FD))) TN)):=aj
theorem am1:TN=.seq (.seq (qM (qM TN)) (.cond (.tmp 190) (.seq (qM arH) .ret) .skip)) (.seq (.seq (qM (qM (qA TN))) (.cond (.tmp 199) (.seq (qM arI) .ret) .skip)) Xk):=aj
section
variable {X:Nat->Prop}{Y:Nat->aV}{D:Nat->ah->aH->Prop}{Stop:aG->ah->Prop}{w:ah}
variable {K N C m pb mx x gv er lf:Nat}{bo:aY}{cap:Nat}{vb vm vs y1 y3:ai}{T:aB}{ns Da:Nat->ak}{va:Nat->ai}
theorem an2(rM:uU X D)(hT:TH4 pb vb vm vs (.int .i64 (x:Int)) y1 (.slice (some ⟨gv,0,none⟩) N N) y3 T)(EX:ql w pb [.int .i64 ((K:Nat):Int),.int .i64 ((N:Nat):Int),.int .i64 ((C:Nat):Int)] 24)(hN1:1<=N)(hN:N<=12)(hlf:lf=if x<N then N-1 else N)
  (qJ:∀(T':aB)(w':ah),TH4 pb vb vm vs (.int .i64 (x:Int)) y1 (.slice (some ⟨gv,0,none⟩) N N) y3 T'->T'.getD 30 undef=.int .i64 (lf:Int)->sH w.heap.size w w'->rC prog X Y D Stop none [] 5 [] [.code TN] T' w'):
  rC prog X Y D Stop none [] 5 [] [.code FD] T w:=by
 obtain⟨g,rfl⟩:=hT;unfold Xj;rw[am0];have c1:=EX.cell (i:=1) rfl;refine qy rM (rF qP rM aj Gq λR hR τ d=>?_);have bl:sH w.heap.size w {w with tape:=τ,drawn:=d}:=(sH.refl _ w).tp τ d;have cA:=(tq bl).cell c1;generalize({w with tape:=τ,drawn:=d}:ah)=wA at bl cA⊢;simp only[FD,Jc,Ag,BR,Dc,Qg,qM,qA,uj,Tryz.f5,aQ];go_wp2;refine qy rM (rF qP rM aj Gq λR hR τ d=>?_);replace bl:=bl.tp τ d;replace cA:({wA with tape:=τ,drawn:=d}:ah).cell? ⟨pb,1,none⟩=some (.int .i64 (N:Int)):=cA;generalize({wA with tape:=τ,drawn:=d}:ah)=wB at bl cA⊢;simp only[FD,Jc,Ag,BR,Dc,Qg,qM,qA,uj,Tryz.f5,aQ];go_wp2;refine qy rM (rF qP rM aj Gq λR hR τ d=>?_);replace bl:=bl.tp τ d;replace cA:({wB with tape:=τ,drawn:=d}:ah).cell? ⟨pb,1,none⟩=some (.int .i64 (N:Int)):=cA;generalize({wB with tape:=τ,drawn:=d}:ah)=wC at bl cA⊢;simp only[FD,Jc,Ag,BR,Dc,Qg,qM,qA,uj,Tryz.f5,aQ];by_cases q:x<N
 .rw[ay q]at hlf;have q':(x:Int)<(N:Int):=ag;have e1:(lf:Int)=(N:Int)-1:=ag;have HL:Hid ((lf:Int)=(N:Int)-1):=e1;clear hlf e1;go_wp2;exact qJ _ _ ⟨_,Af rfl⟩ (by rw[HL.out];rfl) bl
 .rw[au q]at hlf;have q':¬((x:Int)<(N:Int)):=ag;subst hlf;go_wp2;exact qJ _ _ ⟨_,Af rfl⟩ rfl bl
theorem an3(rM:uU X D)(hT:TH4 pb (.slice bo m cap) (.int .i64 (mx:Int)) vs (.int .i64 (x:Int)) y1 (.slice (some ⟨gv,0,none⟩) N N) (.int .i64 (er:Int)) T)(h30:T.getD 30 undef=.int .i64 (lf:Int))(EX:ql w pb [.int .i64 ((K:Nat):Int),.int .i64 ((N:Nat):Int),.int .i64 ((C:Nat):Int)] 24)(hm:m<=1048576)(h2:BlS w bo m ns Da va)
  (hc:(mx=0/\K<=lf/\er=0/\∃gb vd,y1=.slice (some ⟨gb,0,none⟩) m m/\BlS w (some ⟨gb,0,none⟩) m ns Da vd)\/((mx≠0\/lf<K)/\(er=12\/er=13)/\y1=.slice none 0 0)\/((mx≠0\/lf<K)/\er=0))
  (DR:∀(T':aB)(kk:b_)(w':ah),T'.getD 12 undef=.bool true->(er≠0\/mx=0/\K<=lf)->sH w.heap.size w w'->rC prog X Y D Stop none [] 5 [] (.code .ret::kk) T' w')
  (qJ:∀(T':aB)(w':ah),TH5 pb vs y1 (.slice (some ⟨gv,0,none⟩) N N) T'->(mx≠0\/lf<K)->er=0->sH w.heap.size w w'->rC prog X Y D Stop none [] 5 [] [.code Xk] T' w'):
  rC prog X Y D Stop none [] 5 [] [.code TN] T w:=by
 obtain⟨g,rfl⟩:=hT;have e30:g 30=.int .i64 (lf:Int):=h30;unfold Xj;rw[e30];clear h30 e30;have c0:=EX.cell (i:=0) rfl;rw[am1];refine qy rM (qy rM (rF qP rM aj Gq λR hR τ d=>?_));have bl:sH w.heap.size w {w with tape:=τ,drawn:=d}:=(sH.refl _ w).tp τ d;have cK:=(tq bl).cell c0;generalize({w with tape:=τ,drawn:=d}:ah)=wA at bl cK⊢;simp only[TN,FD,Jc,Ag,BR,Dc,Qg,qM,qA,uj,Tryz.f5,aQ];rcases hc with⟨rfl,hl,rfl,gb,vd,rfl,h1⟩|hc
 .have FI:(K:Int)<=(lf:Int):=ag;go_wp2;refine xu rM (b:=true) rfl ?_;refine qy rM (rF qP rM aj Gq λR hR τ d=>?_);replace bl:=bl.tp τ d;generalize({wA with tape:=τ,drawn:=d}:ah)=wE at bl⊢;have hs:=tq bl
  have g1:BlS wE (some ⟨gb,0,none⟩) m ns Da vd:=⟨λh=>by obtain⟨b,o,e,hc⟩:=h1.cells h;exact⟨b,o,e,λi hi=>⟨hs.cell (hc i hi).1,hs.cell (hc i hi).2⟩⟩,λi hi=>hs.lies (h1.dat i hi)⟩
  have g2:BlS wE bo m ns Da va:=⟨λh=>by obtain⟨b,o,e,hc⟩:=h2.cells h;exact⟨b,o,e,λi hi=>⟨hs.cell (hc i hi).1,hs.cell (hc i hi).2⟩⟩,λi hi=>hs.lies (h2.dat i hi)⟩
  have kb:=WW m m cap (some ⟨gb,0,none⟩) bo ns Da vd va wE hm g1 g2;simp only[arH,TN,FD,Jc,Ag,BR,Dc,Qg,qM,qA,uj,Tryz.f5,aQ]
  go_wp2_with(first|(go_at_call 12;(with_reducible refine kb.mono ?_);rintro r w9 ⟨rfl,q,hw9⟩))
  refine DR _ _ _ ?_ (.inr ⟨ax,hl⟩) (bl.trans (sH.of (below_drewN (aT _ _) q)) bl.sN);rfl
 .have atp:Hid (mx≠0\/lf<K):=by rcases hc with h|h<;>exact h.1
  have Y_:(mx:Int)=0/\¬((K:Int)<=(lf:Int))\/((mx:Int)==0)=false:=by
   have h:mx≠0\/lf<K:=by rcases hc with h|h<;>exact h.1
   rcases fE mx with q|q
   .exact .inl ⟨ag,ag⟩
   .exact .inr aS
  replace hc:((er=12\/er=13)/\y1=.slice none 0 0)\/er=0:=by rcases hc with h|h;exact .inl h.2;exact .inr h.2
  rcases Y_ with⟨qm,qk⟩|qm
  all_goals
   go_wp2;refine xu rM (b:=false) rfl ?_;refine Et rM ?_;refine qy rM (qy rM (rF qP rM aj Gq λR hR τ d=>?_));replace bl:=bl.tp τ d;generalize({wA with tape:=τ,drawn:=d}:ah)=wE at bl⊢;simp only[TN,FD,Jc,Ag,BR,Dc,Qg,qM,qA,uj,Tryz.f5,aQ];rcases hc with⟨he,rfl⟩|rfl
   .rcases he with rfl|rfl
    all_goals
     go_wp2;refine xu rM (b:=true) rfl ?_;refine qy rM (rF qP rM aj Gq λR hR τ d=>?_);replace bl:=bl.tp τ d;generalize({wE with tape:=τ,drawn:=d}:ah)=wF at bl⊢;simp only[arI,TN,FD,Jc,Ag,BR,Dc,Qg,qM,qA,uj,Tryz.f5,aQ];go_wp2;exact DR _ _ _ rfl (.inl ax) bl
   .go_wp2;refine xu rM (b:=false) rfl ?_;refine Et rM ?_;exact qJ _ _ ⟨_,Af rfl⟩ atp.out ax bl
end
theorem am2:TP=.seq (qM TP) (.seq (qM (qA TP)) (.seq (qM (qA (qA TP))) .ret)):=aj
section
variable {X:Nat->Prop}{Y:Nat->aV}{D:Nat->ah->aH->Prop}{Stop:aG->ah->Prop}{w:ah}
variable {K N C pb gv bs cs bg:Nat}{T:aB}{es:Nat->Nat}{sv og:Nat->ai}{sb Bg:Nat->ak}
theorem apK(rM:uU X D)(hT:TH6 pb (.slice (some ⟨bs,0,none⟩) N cs) (.slice (some ⟨gv,0,none⟩) N N) (.slice (some ⟨bg,0,none⟩) N N) T)(EX:ql w pb [.int .i64 ((K:Nat):Int),.int .i64 ((N:Nat):Int),.int .i64 ((C:Nat):Int)] 24)(hN1:1<=N)(hN:N<=12)
  (aos:∀i,i<N->w.cell? ⟨gv,i,none⟩=some (.int .i64 ((es i:Nat):Int))) (hSl:SlB w (some ⟨bs,0,none⟩) N sb sv) (hcg:∀i,i<N->w.cell? ⟨bg,i,none⟩=some (og i)) (hog:∀i,i<N->rO 0 w (og i) (Bg i)) (heq:∀i,i<N->es i=0->sb i=Bg i)
  (DR:∀(T':aB)(kk:b_)(w':ah),T'.getD 12 undef=.bool true->sH w.heap.size w w'->rC prog X Y D Stop none [] 5 [] (.code .ret::kk) T' w'):
  rC prog X Y D Stop none [] 5 [] [.code TP] T w:=by
 obtain⟨g,rfl⟩:=hT;unfold Xj;rw[am2];have c1:=EX.cell (i:=1) rfl;obtain⟨b0,o0,e0,hcs⟩:=hSl.cells ag;cases e0;refine qy rM (rF qP rM aj Gq λR hR τ d=>?_);have bl:sH w.heap.size w {w with tape:=τ,drawn:=d}:=(sH.refl _ w).tp τ d;have cA:=(tq bl).cell c1;generalize({w with tape:=τ,drawn:=d}:ah)=wA at bl cA⊢;simp only[TP,Xk,FD,Jc,Ag,BR,Dc,Qg,qM,qA,uj,Tryz.f5,aQ];go_wp2;clear cA;refine qy rM (rF qP rM aj Gq λR hR τ d=>?_);replace bl:=bl.tp τ d;generalize({wA with tape:=τ,drawn:=d}:ah)=wB at bl⊢;simp only[TP,Xk,FD,Jc,Ag,BR,Dc,Qg,qM,qA,uj,Tryz.f5,aQ];go_wp2
 go_loopw [33] (λvi wr=>∃i:Nat,i<=N/\vi=.int .i64 (i:Int)/\sH wB.heap.size wB wr) (λvi _=>N-(intOf vi).toNat)
 case atStart=>exact⟨0,ag,rfl,sH.refl _ _⟩
 case round=>
  obtain⟨i,hi,rfl,I_⟩:=hrel;have hsb:=(tq bl).trans (tq I_);have cN:=hsb.cell c1;by_cases qK:i<N
  .have Am:(i:Int)<(N:Int):=ag;have c2:=hsb.cell (aos i qK);have c3:=hsb.cell (hcs i qK);rw[bM]at c3;have c4:=hsb.cell (hcg i qK);have l3:=hsb.lies (hSl.IU i qK).1;have l4:=hsb.lies (qU.owned (hog i qK));have he:=heq i qK;generalize es i=t at c2 he;by_cases ht:t=0
   .subst ht;rw[<-he rfl]at l4;have sa:(convert 34 9 (sv i)).run prog wr.drew=.ok (.string ⟨(sb i).toArray⟩) wr.drew:=qU.str (w:=wr.drew) l3;have sc:(convert 34 9 (og i)).run prog wr.drew=.ok (.string ⟨(sb i).toArray⟩) wr.drew:=qU.str (w:=wr.drew) l4;obtain⟨p3,x3,e3⟩:=l3.len;obtain⟨p4,x4,e4⟩:=l4.len;rw[e3]at c3 sa;rw[e4]at c4 sc;clear l3 l4 he e3 e4;generalize(sJ (sb i)).length=ld at*;have hS:wr.drew.cell? ⟨gv,i,none⟩=some (.int .i64 0)/\wr.drew.cell? ⟨bs,i,none⟩=some (.slice p3 ld x3)/\wr.drew.cell? ⟨bg,i,none⟩=some (.slice p4 ld x4)/\(convert 34 9 (.slice p3 ld x3)).run prog wr.drew=.ok (.string ⟨(sb i).toArray⟩) wr.drew/\(convert 34 9 (.slice p4 ld x4)).run prog wr.drew=.ok (.string ⟨(sb i).toArray⟩) wr.drew/\wr.drew=wr.drew:=⟨c2,c3,c4,sa,sc,rfl⟩;go_wp2;refine afw ?_
    go_region_held3 (λw'=>w'.cell? ⟨gv,i,none⟩=some (.int .i64 0)/\w'.cell? ⟨bs,i,none⟩=some (.slice p3 ld x3)/\w'.cell? ⟨bg,i,none⟩=some (.slice p4 ld x4)/\(convert 34 9 (.slice p3 ld x3)).run prog w'=.ok (.string ⟨(sb i).toArray⟩) w'/\(convert 34 9 (.slice p4 ld x4)).run prog w'=.ok (.string ⟨(sb i).toArray⟩) w'/\w'=wr.drew) (first|exact hS|(refine⟨?_,?_,?_,?_,?_,?_⟩<;>assumption)|go_keep) (fail)
    unfold aj0;go_wp2;exact⟨⟨i+1,ag,ax,⟨I_.os,rfl,I_.output,I_.size,I_.block⟩⟩,gG⟩
   .have ht':((t:Int)==0)=false:=aS;go_wp2
    go_big_quiet (fail)
    go_wp2;exact⟨⟨i+1,ag,ax,I_.trans (sH.of (below_drewN (aT _ _) nq)) I_.sN⟩,gG⟩
  .obtain rfl:i=N:=ag;have Hg:¬((i:Int)<(i:Int)):=ag;go_wp2;replace bl:=bl.trans I_ bl.sN;refine qy rM (rF qP rM aj Gq λR hR τ d=>?_);replace bl:=bl.tp τ d;generalize({wr with tape:=τ,drawn:=d}:ah)=wD at bl⊢;simp only[TP,Xk,FD,Jc,Ag,BR,Dc,Qg,qM,qA,uj,Tryz.f5,aQ];go_wp2;exact DR _ _ _ rfl bl
end
end Go.Proofs.Y
namespace Go.Proofs.Y
open Go.Proofs.Tryz
open Go.RowKit Go.Deep Go.Hp
theorem Ur(x i:Nat):2^x/2^i%2=if i=x then 1 else 0:=by
 rcases oQ i x with h|h|h
 .rw[au ag,show x=i+((x-i-1)+1)by omega,Nat.pow_add,Nat.mul_div_cancel_left _ (Nat.two_pow_pos _),jd];omega
 .subst h;rw[ay rfl,Nat.div_self (Nat.two_pow_pos _)]
 .rw[au ag,lM (Nat.pow_lt_pow_right ag h)]
theorem afx(x:Nat):∀n,(okX (2^x) n).length=if x<n then n-1 else n
 |0=>by simp[okX]
 |n+1=>by
  rw[abn,Ur];have ih:=afx x n;by_cases h:n=x
  .subst h;rw[au ax,ih,au ag,ay ag];omega
  .rw[au h,ay rfl,bK,ih];by_cases q:x<n
   .rw[ay q,ay ag];simp;omega
   .rw[au q,au ag];simp
theorem am3{x n i:Nat}(hi:i<n)(h:i≠x):i∈okX (2^x) n:=by rw[okX,List.mem_filter];exact⟨fH.2 hi,by rw[Ur,au h];rfl⟩
section
variable {K N C m mx x:Nat}{f f':Nat->qX}{d d':qX->ak}
structure Twin(m:Nat)(f f':Nat->qX)(d d':qX->ak):Prop where
 nm:qE m f'=qE m f
 sz:qx m f'=qx m f
 hd:∀j,j<m->(d (f j)).length=(f j).l
 hd':∀j,j<m->(d' (f' j)).length=(f' j).l
def E5(K N C m mx:Nat)(f f':Nat->qX)(d d':qX->ak)(i:Nat):xG:=BQ mx (FB K N C m f d) (FB K N C m f' d') i
theorem an4(i:Nat):(E5 K N C m mx f f' d d' i).i=i:=by unfold E5 BQ;split<;>exact ada i
theorem aj2(i:Nat):(E5 K N C m mx f f' d d' i).k=K:=by unfold E5 BQ;split<;>simp[FB,Ry,uy]
theorem aj3(h:Twin m f f' d d')(i:Nat):(E5 K N C m mx f f' d d' i).names=qE m f:=by
 unfold E5 BQ;split
 .exact h.nm
 .rfl
theorem Z8(h:Twin m f f' d d')(i:Nat):(E5 K N C m mx f f' d d' i).sizes=(qx m f).map Int.toNat:=by
 unfold E5 BQ;split
 .show(qx m f').map Int.toNat=_;rw[h.sz]
 .rfl
theorem am4(h:Twin m f f' d d')(i j:Nat):OE (E5 K N C m mx f f' d d' i) (E5 K N C m mx f f' d d' j)=true:=by
 have e1:=aj3 (K:=K) (N:=N) (C:=C) (mx:=mx) h;have e2:=Z8 (K:=K) (N:=N) (C:=C) (mx:=mx) h
 have e3:∀i,(E5 K N C m mx f f' d d' i).n=N/\(E5 K N C m mx f f' d d' i).c=C:=λi=>by unfold E5 BQ;split<;>simp[FB,Ry,uy]
 unfold OE;rw[aj2,aj2,(e3 i).1,(e3 j).1,(e3 i).2,(e3 j).2,e1,e1,e2,e2];simp
theorem am5{sb:Nat->ak}{g:Nat->Nat}{vb:ai}{er:Nat}{w:ah}(hTw:Twin m f f' d d')(hp:∀i,i<N->qY (Jm (uy K N C m f d i))=.ok (FB K N C m f d i))(hp':∀i,i<N->qY (Jm (uy K N C m f' d' i))=.ok (FB K N C m f' d' i))
  (hgd:∀i,i<N->(uy K N C m f d i).L8/\(uy K N C m f d i).Few/\(uy K N C m f d i).OC) (aun:∀i,i<N->(uy K N C m f' d' i).L8/\(uy K N C m f' d' i).Few/\(uy K N C m f' d' i).OC)
  (hH:∀i,i<N->Spo x i (BQ mx (λi=>Jm (uy K N C m f d i)) (λi=>Jm (uy K N C m f' d' i)) i) (sb i)) (hK:1<=K) (hP:Prm (Nw sb N).length g) (hR:Zi (Nw sb N).length (λi=>AP (Nw sb N) (g i)) vb er w):
  (∀i,i<N->(erS (sb i)=0↔i≠x))/\
  (mx=0->K<=(okX (2^x) N).length->er=0/\∃gb vd,vb=.slice (some ⟨gb,0,none⟩) m m/\CB (qE m f) ((qx m f).map Int.toNat) (rE (λj=>d (f j)) m) gb m vd w)/\
  (((er=12\/er=13)/\vb=.slice none 0 0)\/(er=0/\∃l gb vd,l.length=((qx m f).map Int.toNat).sum/\(∀i,i<N->i≠x->(E5 K N C m mx f f' d d' i).qH=zW K (ug K ((qx m f).map Int.toNat).sum) l i)/\vb=.slice (some ⟨gb,0,none⟩) m m/\CB (qE m f) ((qx m f).map Int.toNat) l gb m vd w)):=by
 have Ej:∀i,i<N->if 2^x/2^i%2=0 then qY (sb i)=.ok (E5 K N C m mx f f' d d' i)else∃e,qY (sb i)=.error e:=λi hi=>by
  have h:=hH i hi;unfold Spo at h;rw[Ur];by_cases q:i=x
  .rw[ay q]at h;rw[au (by rw[ay q];omega)];unfold BQ at h;split at h
   .obtain⟨g1,g2,g3⟩:=aun i hi;exact Ym g1 g2 g3 h.2.1 h.2.2
   .obtain⟨g1,g2,g3⟩:=hgd i hi;exact Ym g1 g2 g3 h.2.1 h.2.2
  .rw[au q]at h;rw[ay (by rw[au q]),h];unfold E5 BQ;split
   .exact hp' i hi
   .exact hp i hi
 have htk:=afo N Ej;have hlen:(Nw sb N).length=(okX (2^x) N).length:=by rw[htk];simp
 refine⟨λi hi=>?_,?_⟩
 .have h:=Ej i hi;rw[Ur]at h;by_cases q:i=x
  .rw[au (by rw[ay q];omega)]at h;obtain⟨e,he⟩:=h;have:=aaJ he;simp only[erS,he];exact⟨λy=>absurd y this,λy=>absurd q y⟩
  .rw[ay (by rw[au q])]at h;simp only[erS,h];exact⟨λ_=>q,λ_=>trivial⟩
 rw[hlen]at hP hR;rw[htk]at hR;have hnd:(okX (2^x) N).Pairwise (· ≠ ·):=List.Pairwise.filter _ kS;have aeR:∀i,i<N->i≠x->i∈okX (2^x) N:=λi hi h=>am3 hi h
 generalize okX (2^x) N=xs at*
 have ahR:∀i j,i<xs.length->j<xs.length->i≠j->xs.getD (g i) 0≠xs.getD (g j) 0:=λi j hi hj hne e'=>by
  have l1:=hP.lt i hi;have l2:=hP.lt j hj;rw[bH,bH,cO l1,cO l2,aQ,aQ]at e';have hpw:=List.pairwise_iff_getElem.1 hnd;refine hP.inj i j hi hj hne ?_;rcases oQ (g i) (g j)with q|q|q
  .exact absurd e' (hpw _ _ l1 l2 q)
  .exact q
  .exact absurd e'.symm (hpw _ _ l2 l1 q)
 rcases fE xs.length with h0|h0
 .rw[h0]at hR⊢;obtain⟨a,b⟩:=ai3 hR;exact⟨λ_ h=>ag,.inl ⟨.inl a,b⟩⟩
 .have hR':=hR.congr h0 (sh':=λi=>E5 K N C m mx f f' d d' (xs.getD (g i) 0)) λi hi=>by
   have:=hP.lt i hi;simp[AP,cO this]
  refine⟨λhm hk=>?_,?_⟩
  .subst hm
   have e0:(λi=>E5 K N C m 0 f f' d d' (xs.getD (g i) 0))=λi=>FB K N C m f d (xs.getD (g i) 0):=by
    funext i
    unfold E5 BQ;rw[au ax]
   rw[e0]at hR';exact(alN hTw.hd (x:=λi=>xs.getD (g i) 0) ahR hK hR').1 hk
  .have hA:BH xs.length λi=>E5 K N C m mx f f' d d' (xs.getD (g i) 0):=λi hi=>am4 hTw _ _
   have hD:¬Dup xs.length λi=>E5 K N C m mx f f' d d' (xs.getD (g i) 0):=λ⟨t,h1,h2⟩=>ahR (t+1) t h1 ag ag (by simpa only[an4]using h2);rcases hR' with⟨hne,hv,hE|⟨e13,_,_⟩⟩|⟨rfl,hE,l,gb,vd,hF,hU,hv,hC⟩
   .refine .inl ⟨?_,hv⟩;rcases hE with⟨_,h⟩|⟨_,_,h⟩|⟨h,_⟩|⟨h,_⟩
    .exact absurd hA h
    .exact absurd h hD
    .exact .inl h
    .exact absurd h hne
   .exact .inl ⟨.inr e13,hv⟩
   .obtain⟨hl,hH'⟩:=hF;simp only[aj3 hTw,Z8 hTw,uC]at hv hC;rw[Z8 hTw]at hl;refine .inr ⟨rfl,l,gb,vd,hl,λi hi hx=>?_,hv,hC⟩;obtain⟨p,EE,CE⟩:=List.getElem_of_mem (aeR i hi hx);obtain⟨t,Tn,ht2⟩:=hP.onto p EE;have:=hH' t Tn;simp only[an4,Z8 hTw,aj2]at this;rw[ht2,bH,cO EE,aQ,CE]at this;exact this
end
theorem afy(sz:aA)(l:ak):∀j,j<=sz.length->rE (Nz sz l) j=l.take (pre sz j)
 |0,_=>by simp[rE,pre]
 |j+1,h=>by show rE (Nz sz l) j++Nz sz l j=_;rw[afy sz l j ag,EF ag,Nz,List.take_add]
theorem aj6{sz:aA}{l:ak}(h:l.length=sz.sum):rE (Nz sz l) sz.length=l:=by rw[afy sz l _ (az _),pre,List.take_length,<-h,List.take_length]
