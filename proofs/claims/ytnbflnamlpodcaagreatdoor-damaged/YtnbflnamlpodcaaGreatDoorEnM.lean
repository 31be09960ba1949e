import Derived.Test.YtnbflnamlpodcaaGreatDoorEnD
set_option maxHeartbeats 4000000
set_option maxRecDepth 100000
namespace Go.Hp
def Srt(n:Nat)(f:Nat->qY):Prop:=∀i,i+1<n->le (f i).k (f (i+1)).k
structure MS(h m:Nat)(f L R:Nat->qY)(i j:Nat)(out:Nat->qY):Prop where
 re:qN (h+m) f (λx=>if x<i+j then out x else if x<j+h then L (x-j)else R (x-h))
 so:Srt (i+j) out
 lo:0<i+j->∀x,i<=x->x<h->le (out (i+j-1)).k (L x).k
 hi:0<i+j->∀x,j<=x->x<m->le (out (i+j-1)).k (R x).k
theorem al2{n:Nat}{s:Nat->Nat}(hs:∀i,i<n->s i<n)(hm:∀i,i+1<n->s i<s (i+1)):∀i,i<n->s i=i:=by
 have h1:∀i,i<n->i<=s i:=by
  intro i
  induction i with
  |zero=>intro _;omega
  |succ i ih=>intro hi;have:=ih ae;have:=hm i hi;omega
 have h2:∀d i,i+d+1=n->s i<=i:=by
  intro d
  induction d with
  |zero=>intro i hi;have:=hs i ae;omega
  |succ d ih=>intro i hi;have:=ih (i+1) ae;have:=hm i ae;omega
 intro i hi;have:=h1 i hi;have:=h2 (n-i-1) i ae;omega
theorem ac8{n:Nat}{f g g':Nat->qY}(a:qN n f g)(b:qN n f g')(hg:∀i,i+1<n->lt (g i).k (g (i+1)).k=true)(uB:Srt n g'):∀i,i<n->g' i=g i:=by
 obtain⟨s,t,h1,h2⟩:=a.symm.trans b
 have far:∀d i,i+d+1<n->lt (g i).k (g (i+d+1)).k=true:=by
  intro d
  induction d with
  |zero=>intro i hi;exact hg i hi
  |succ d ih=>intro i hi;exact lt_trans (ih i ae) (hg (i+d+1) ae)
 have hm:∀i,i+1<n->s i<s (i+1):=by
  intro i hi;rcases atZ (s i) (s (i+1))with h|h|h
  .exact h
  .have e1:=(h1 i ae).2.2.1;have e2:=(h1 (i+1) hi).2.2.1;rw[h,e2]at e1;omega
  .have q:=far (s i-s (i+1)-1) (s (i+1)) (by have:=(h1 i ae).1;omega);rw[show s (i+1)+(s i-s (i+1)-1)+1=s i by omega]at q;have:=uB i hi;rw[h2 i ae,h2 (i+1) hi]at this;unfold Hp.le at this;rw[this]at q;cases q
 have hid:=al2 (λi hi=>(h1 i hi).1) hm;intro i hi;rw[h2 i hi,hid i hi]
end Go.Hp
namespace Go.Proofs.Y
open Go.RowKit Go.Deep Go.Hp
theorem BC.aeY{w:World}{B n:Nat}{v:Value}{f:Nat->qY}(h:w.ownsRow B 44 2 v n (wW n f)):∃bo cap,v=.slice bo n cap/\n<=cap/\(bo=none->cap=0)/\BC w bo n f:=by
 rcases h.2 with⟨rfl,rfl⟩|⟨g,cap,cur,rfl,h2,h3,h4,_⟩
 .exact⟨none,0,rfl,ak _,λ_=>rfl,⟨λh0=>absurd h0 ae⟩⟩
 .refine⟨_,cap,rfl,h4,(λe=>nomatch e),⟨λ_=>⟨g,0,rfl,(h.lt g rfl).2,λi hi=>?_⟩⟩⟩;have q0:=h.cellAt (i*2) ae;have q1:=h.cellAt (i*2+1) ae;rw[show i*2=i*2+0 from rfl,J8 n f i 0 hi ae]at q0;rw[J8 n f i 1 hi ae]at q1;rw[aT];exact⟨q0,q1⟩
def NL(r x:Nat->Nat):Nat->Nat
 |0=>0
 |j+1=>NL r x j^^^mul (r j) (x j)
theorem Ti{r x:Nat->Nat}(hr:∀j,r j<256):∀n,NL r x n<256
 |0=>by simp[NL]
 |n+1=>iC (n:=8) (Ti hr n) (mul_lt (hr n))
structure Cls(w:World)(k L bP:Nat)(a:Nat->Option Addr)(bl cp:Nat->Nat)(x:Nat->Nat->Nat):Prop where
 qy:∀j,j<k->w.cell? ⟨bP,j,none⟩=some (.slice (a j) L (cp j))
 at_:∀j m,j<k->m<L->a j=some ⟨bl j,0,none⟩/\w.cell? ⟨bl j,m,none⟩=some (.int .u8 ((x j m:Nat):Int))
theorem UE{w w':World}{B:Nat}(h:Below B w w')(hB:w.heap.size<=B){b o:Nat}{u:Value}(hc:w.cell? ⟨b,o,none⟩=some u):w'.cell? ⟨b,o,none⟩=some u:=
 (h.cell (p:=⟨b,o,none⟩) (aK (rM hc) hB)).trans hc
def ah6(n:Nat)(f:Nat->Nat):List Value:=(List.range n).map λj=>.int .u8 ((f j:Nat):Int)
end Go.Proofs.Y
namespace Go.Proofs.Y
open Go.RowKit Go.Deep
end Go.Proofs.Y
namespace Go.Proofs.Y
open Go.RowKit Go.Deep Go.Hp
theorem yR.grow{w w':World}{e:qY}{d:List UInt8}(h:yR w e d)(_hs:w.heap.size<=w'.heap.size)(up:∀{b o:Nat}{u:Value},w.cell? ⟨b,o,none⟩=some u->w'.cell? ⟨b,o,none⟩=some u):yR w' e d:=by
 refine⟨h.1,?_⟩;rcases h.2 with h2|⟨ad,h2,h4⟩
 .exact .inl h2
 .refine .inr ⟨ad,h2,λj u hj=>?_⟩;have h5:=h4 j u hj;have acs:=World.cell?_spot h5;generalize ad.add j=p at h5 acs⊢;obtain⟨b,o,sp⟩:=p;dsimp only at acs;subst acs;exact up h5
theorem BC.up{w w':World}{bo:Option Addr}{n:Nat}{f:Nat->qY}(h:BC w bo n f)(hs:w.heap.size<=w'.heap.size)(up:∀{b o:Nat}{u:Value},w.cell? ⟨b,o,none⟩=some u->w'.cell? ⟨b,o,none⟩=some u):BC w' bo n f:=⟨λhn=>by obtain⟨b,o,h1,h2,h3⟩:=h.here hn;exact⟨b,o,h1,aK h2 hs,λi hi=>⟨up (h3 i hi).1,up (h3 i hi).2⟩⟩⟩
def xAt(l:List UInt8)(L j m:Nat):Nat:=tJ l (j*L+m)
theorem cell_of_block{w:World}{b m:Nat}{cur:Array Value}{t:TypeId}{u:Value}(h:w.heap[b]?=some (.cells cur t))(hc:cur[m]?=some u):w.cell? ⟨b,m,none⟩=some u:=by simp[World.cell?,h,hc]
theorem PX{w:World}{B t n:Nat}{v:Value}{xs:List Value}(h:w.ownsRow B t 1 v n xs):qR w v xs:=by
 have hl:=h.1;rcases h.2 with⟨rfl,rfl⟩|⟨g,cap,cur,rfl,h2,h3,h4,_⟩
 .have:xs=[]:=kN.1 ae;subst this;exact⟨none,0,rfl,ak _,λj u hj=>by simp at hj⟩
 .have e:n=xs.length:=ae;refine⟨some ⟨g,0,none⟩,cap,jU,ae,λj u hj=>⟨g,0,rfl,?_⟩⟩
  have Nz:j<n*1:=by have:=(dS.1 hj).1;omega
  rw[aT,h.cellAt j Nz];exact hj
theorem FY(d:qY->List UInt8)(f:Nat->qY):∀n,(∀i,i<n->(d (f i)).length=(f i).l)->EG (qG n f)=(rC (λj=>d (f j)) n).length
 |0,_=>rfl
 |n+1,h=>by
  have ih:=FY d f n λi hi=>h i ae
  have e:qG (n+1) f=qG n f++[((f n).l:Int)]:=by simp[qG,dC]
  rw[e];unfold EG at*;simp only[iH,iG,fE,jm,jk,mg,rC,aS,h n ae,ih];simp
theorem aiM(n:Nat)(f:Nat->qY):Og (qG n f):=λi hi=>by rw[yh]at hi;simp[qG,hi]
theorem Gg(n:Nat)(f:Nat->qY){i:Nat}(hi:i<n):(qB n f).getD i []=(f i).k:=by simp[qB,hi]
theorem QS{a b:List UInt8}:UF a b=false↔Hp.lt b a=true:=by
 have e:∀x y:List UInt8,Op.bytesLess x y=Hp.lt x y:=λ_ _=>rfl
 unfold UF;rw[e];rcases Hp.GU a b with⟨g,h,n⟩|⟨g,h,n⟩|⟨rfl,h,_⟩
 .rw[g,h];simp
 .rw[g,h];simp[n]
 .rw[h];simp
theorem Y8{n:Nat}{g:Nat->qY}(h:vV (qB n g)):∀i,i+1<n->Hp.lt (g i).k (g (i+1)).k=true:=λi hi=>by
 have hl:(qB n g).length=n:=by simp[qB]
 have:=(h (i+1) ae).2 ae;rw[Gg n g hi,gz,Gg n g ae]at this;exact QS.1 this
theorem Xw{n:Nat}{f g:Nat->qY}(hR:qN n f g)(hS:Srt n g):vV (qB n g)↔uM n f:=by
 have hl:(qB n g).length=n:=by simp[qB]
 constructor
 .intro h;refine⟨λi hi=>?_,aaQ hR (Y8 h)⟩;obtain⟨j,hj,e⟩:=hR.symm.from hi;have:=(h j ae).1;rw[Gg n g hj,<-e]at this;exact this
 .rintro⟨h1,h2⟩ i hi;rw[hl]at hi;rw[Gg n g hi];refine⟨?_,λh0=>?_⟩
  .obtain⟨j,hj,e⟩:=hR.from hi;rw[e];exact h1 j hj
  .rw[Gg n g ae,QS];have hle:=hS (i-1) ae;rw[show i-1+1=i by omega]at hle;refine Hp.lt_of_le_ne hle λe=>?_
   obtain⟨x,y,hx,hy,hne,e1,e2⟩:=hR.two (i:=i-1) (j:=i) ae hi ae;rw[e1,e2]at e;rcases aQ x y with q|q
   .exact h2 x y q hy e
   .exact h2 y x ae hx e.symm
theorem NM{n:Nat}{g:Nat->qY}(h:vV (qB n g)):UA (qB n g) (qG n g):=⟨by simp[qB,qG],h,aiM n g⟩
theorem ac9{n:Nat}{g g':Nat->qY}(h:∀i,i<n->g' i=g i):qB n g'=qB n g:=mi λi hi=>avR
theorem ac_{n:Nat}{g g':Nat->qY}(h:∀i,i<n->g' i=g i):qG n g'=qG n g:=mi λi hi=>avR
theorem XL{d:qY->List UInt8}{g g':Nat->qY}:∀n,(∀i,i<n->g' i=g i)->rC (λj=>d (g' j)) n=rC (λj=>d (g j)) n
 |0,_=>rfl
 |n+1,h=>by
  show _++_=_++_;rw[XL n λi hi=>h i ae]
  congr 1
  show d (g' n)=d (g n);rw[h n ae]
def AY(k L:Nat)(l:List UInt8)(t:Nat):List UInt8:=(List.range L).map λm=>UInt8.ofNat (NL (uj k t) (λj=>xAt l L j m) k)
theorem yc(k L:Nat)(l:List UInt8)(t:Nat):(AY k L l t).length=L:=by simp[AY]
theorem an1(k L:Nat)(l:List UInt8)(t:Nat):r_ (AY k L l t)=ah6 L λm=>NL (uj k t) (λj=>xAt l L j m) k:=by
 unfold AY r_ ah6;rw[jo];refine mi λm _=>?_
 show Value.int .u8 (((UInt8.ofNat _).toNat:Nat):Int)=_;rw[dW,aZ (Ti (λ_=>Dw) k)]
def IU(k n c:Nat)(ns:List (List UInt8))(zs:List Int)(i:Nat)(qy:List UInt8):List UInt8:=
 rf ([67,65,73,82,78,49]++([UInt8.ofNat k,UInt8.ofNat n,UInt8.ofNat i,0]++(uP 4 c++(uP 4 (wS ns zs ns.length).length++(uP 4 qy.length++[0,0])))))++rf (wS ns zs ns.length)++rO c qy (GI c qy.length)++[68,79,78,69]
section
variable {k n c:Nat}{vN vS:Value}{L:Nat}{a:Nat->Option Addr}{cp:Nat->Nat}
end
theorem af5{w:World}{B t s n:Nat}{v:Value}{xs:List Value}(h:w.ownsRow B t s v n xs):∃x c,v=.slice x n c:=by
 rcases h.2 with⟨e,e2⟩|⟨g,c,cur,rfl,_⟩
 .exact⟨none,0,by rw[e,e2]⟩
 .exact⟨_,_,rfl⟩
theorem ada{w w':World}{B B' t s n:Nat}{v:Value}{xs:List Value}(h:w.ownsRow B t s v n xs)(hb:Below B' w w')(hB:w.heap.size<=B'):w'.ownsRow B t s v n xs:=
 rX h λg hg=>hb.block g (aK (h.lt g hg).2 hB)
end Go.Proofs.Y
namespace Go.Proofs.Y
open Go.RowKit Go.Deep
theorem adb(w:World)(a b c d:Value)(t:TypeId):∀j u,[a,b,c,d][j]?=some u->(w.alloc (.cells #[a,b,c,d] t)).cell? ((⟨w.heap.size,0,none⟩:Addr).add j)=some u:=by intro j u hj;rw[G6,aT];exact(qf.made w [a,b,c,d] t).cell hj
theorem ade(w:World)(a b:Value)(t:TypeId):∀j u,[a,b][j]?=some u->(w.alloc (.cells #[a,b] t)).cell? ((⟨w.heap.size,0,none⟩:Addr).add j)=some u:=by intro j u hj;rw[G6,aT];exact(qf.made w [a,b] t).cell hj
theorem aaY(B:Nat)(v0:Value)(k n i c:Nat)(hk:k<=255)(hn:n<=255)(hi:i<=255)(hc:c<=65536)(vN vS:Value)(bc:Option Addr)(len cap:Nat)(hlen:len<=1000000)(M:Int)(m:Nat)(hM:M=m)(hm:m<=1000000)(w:World)(h0:rG B w v0 [])(hB:B<=w.heap.size)(hT:CQ w)(NF:2<B):
  Calls Tryz.prog 54 #[v0,.agg #[.int .i64 (k:Int),.int .i64 (n:Int),.int .i64 (i:Int),.int .i64 (c:Int),vN,vS,.slice bc len cap],.int .i64 M] w
   λr w'=>afq B w (rf ([67,65,73,82,78,49]++([UInt8.ofNat k,UInt8.ofNat n,UInt8.ofNat i,0]++(uP 4 c++(uP 4 m++(uP 4 len++[0,0])))))) r w':=by
 subst hM;obtain⟨i0,Af,x_,w_,wH⟩:=bG Dc;have L6:=qf.made w [.int .i64 (k:Int),.int .i64 (n:Int),.int .i64 (i:Int),.int .i64 (c:Int),vN,vS,.slice bc len cap] 55;have hOX:=h0.alloc (.cells #[.int .i64 (k:Int),.int .i64 (n:Int),.int .i64 (i:Int),.int .i64 (c:Int),vN,vS,.slice bc len cap] 55);have hbX:=(aA B w).alloc hB (.cells #[.int .i64 (k:Int),.int .i64 (n:Int),.int .i64 (i:Int),.int .i64 (c:Int),vN,vS,.slice bc len cap] 55);have hkX:=(yP.refl w).alloc (.cells #[.int .i64 (k:Int),.int .i64 (n:Int),.int .i64 (i:Int),.int .i64 (c:Int),vN,vS,.slice bc len cap] 55);obtain⟨T,eT⟩:∃T,rf ([67,65,73,82,78,49]++([UInt8.ofNat k,UInt8.ofNat n,UInt8.ofNat i,0]++(uP 4 c++(uP 4 m++(uP 4 len++[0,0])))))=T:=⟨_,rfl⟩;have ET:Hid _:=eT;rw[eT];clear eT
 have E4:Hid (r_ [UInt8.ofNat k,UInt8.ofNat n,UInt8.ofNat i,0]=[.int .u8 (k:Int),.int .u8 (n:Int),.int .u8 (i:Int),.int .u8 0]):=by show _=_;simp only[r_,fE,jm,dW];rw[aZ ae,aZ ae,aZ ae];rfl
 go_enter Tryz.func54,Tryz.ntmps54
 go_wp2_with(first
  |(at_builtin;refine Lib.wpList_append_own_string _ rfl _ _ 34 9 rfl B 5 i0 Tryz.underlying34 Tryz.underlying9 Af x_ w_ wH _ _ _ rfl hOX ⟨#[67,65,73,82,78,49]⟩ rfl au au az ?_;intro v1 w1 GG BG _;have UB:rG B w1 v1 ([]++[67,65,73,82,78,49]):=rG.more GG rfl;have JR:=hOX.keeps BG;have t_:=hOX.grown BG az;have xW:=L6.AV JR au;have c0:=xW.cell (i:=0) rfl;have c1:=xW.cell (i:=1) rfl;have c2:=xW.cell (i:=2) rfl;clear GG BG hOX L6)
  |(at_builtin;refine dG _ rfl _ _ 34 rfl B 5 i0 (.int .u8 0) 1 1 Tryz.underlying34 Af x_ w_ wH rfl au _ _ _ rfl (UB.alloc _) ⟨w1.heap.size,0,none⟩ 4 4 (r_ [UInt8.ofNat k,UInt8.ofNat n,UInt8.ofNat i,0]) rfl rfl (by rw[E4.out];exact adb _ _ _ _ _ _) (EK _) au au (by have:=t_.size;simp at this⊢;omega) ?_;intro v2 w2 zC zT _;have ND:rG B w2 v2 (([]++[67,65,73,82,78,49])++[UInt8.ofNat k,UInt8.ofNat n,UInt8.ofNat i,0]):=rG.more zC rfl;have x9:B<=w1.heap.size:=by have:=t_.size;(simp at this;omega)
    have O3:yP w1 w2:=((yP.refl _).alloc _).trans ((UB.alloc _).keeps zT);have sZ:Below B w1 w2:=((aA _ _).alloc x9 _).trans ((UB.alloc _).grown zT az);have Gy:=xW.AV O3 au;have c3:=Gy.cell (i:=3) rfl;have zD:=sZ.size;have K2:=zM (c:Int) 4 c 4 rfl ae rfl ae B v2 (([]++[67,65,73,82,78,49])++[UInt8.ofNat k,UInt8.ofNat n,UInt8.ofNat i,0]) ai w2 ND ae;clear zC zT c0 c1 c2 UB ND xW)
  |(go_at_call 45;refine K2.mono ?_;clear K2;rintro r w3 ⟨v3,rfl,hO3,vK,hk3⟩;have xu:=vK.size;have hr3:=Gy.AV hk3 au;have K3:=zM (m:Int) 4 m 4 rfl ae rfl ae B v3 ((([]++[67,65,73,82,78,49])++[UInt8.ofNat k,UInt8.ofNat n,UInt8.ofNat i,0])++uP 4 c) oO w3 hO3 ae;clear hO3 Gy c3)
  |(go_at_call 45;refine K3.mono ?_;clear K3;rintro r w4 ⟨v4,rfl,hO4,hb4,hk4⟩;have hs4:=hb4.size;have hr4:=hr3.AV hk4 au;have c6:=hr4.cell (i:=6) rfl;have K4:=zM (len:Int) 4 len 4 rfl ae rfl ae B v4 (((([]++[67,65,73,82,78,49])++[UInt8.ofNat k,UInt8.ofNat n,UInt8.ofNat i,0])++uP 4 c)++uP 4 m) oO w4 hO4 ae;clear hO4 hr3 hr4)
  |(go_at_call 45;refine K4.mono ?_;clear K4;rintro r w5 ⟨v5,rfl,hO5,RF,hk5⟩;have FP:=RF.size;clear c6)
  |(at_builtin;refine dG _ rfl _ _ 34 rfl B 5 i0 (.int .u8 0) 1 1 Tryz.underlying34 Af x_ w_ wH rfl au _ _ _ rfl (hO5.alloc _) ⟨w5.heap.size,0,none⟩ 2 2 (r_ [0,0]) rfl rfl (ade _ _ _ _) (EK _) (by simp[qU];decide) oO az ?_;intro v6 w6 RG ael _;have hO6:rG B w6 v6 (((((([]++[67,65,73,82,78,49])++[UInt8.ofNat k,UInt8.ofNat n,UInt8.ofNat i,0])++uP 4 c)++uP 4 m)++uP 4 len)++[0,0]):=rG.more RG rfl;have hk6:yP w5 w6:=((yP.refl _).alloc _).trans ((hO5.alloc _).keeps ael);have hb6:Below B w5 w6:=((aA _ _).alloc ae _).trans ((hO5.alloc _).grown ael az);have hs6:=hb6.size
    have hb7:Below B w w6:=hbX.trans (t_.trans (sZ.trans (vK.trans (hb4.trans (RF.trans hb6)))));have hk7:yP w w6:=hkX.trans (JR.trans (O3.trans (hk3.trans (hk4.trans (hk5.trans hk6)))));have K6:=QQ B v6 (((((([]++[67,65,73,82,78,49])++[UInt8.ofNat k,UInt8.ofNat n,UInt8.ofNat i,0])++uP 4 c)++uP 4 m)++uP 4 len)++[0,0]) oO ai w6 hO6 ae (hT.below hb7 NF);clear RG ael hO5 hO6 t_ sZ vK hb4 RF hb6 hbX JR O3 hk3 hk4 hk5 hk6 hkX)
  |(go_at_call 46;refine K6.mono ?_;clear K6;rintro r w8 ⟨v8,rfl,hO8,hb8,hk8⟩))
 go_ret;refine⟨_,rfl,?_,hb7.trans hb8,hk7.trans hk8⟩;rw[<-ET.out];simpa[dU]using hO8
theorem rG.ars{B B':Nat}{w:World}{v:Value}{l:List UInt8}(h:rG B w v l)(hB:B'<=B):rG B' w v l:=by
 refine⟨h.1,?_⟩;rcases h.2 with x|⟨g,cap,cur,h1,h2,h3⟩
 .exact .inl x
 .exact .inr ⟨g,cap,cur,h1,aJ hB h2,h3⟩
end Go.Proofs.Y
namespace Go.Proofs.Y
open Go.RowKit Go.Deep Go.Hp
