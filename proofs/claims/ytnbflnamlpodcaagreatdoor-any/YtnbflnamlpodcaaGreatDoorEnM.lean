import Derived.Test.YtnbflnamlpodcaaGreatDoorEnD
set_option maxHeartbeats 4000000
set_option maxRecDepth 100000
namespace Go.Hp
def Srt(n:Nat)(f:Nat->qQ):Prop:=∀i,i+1<n->le (f i).k (f (i+1)).k
structure MS(h m:Nat)(f L R:Nat->qQ)(i j:Nat)(out:Nat->qQ):Prop where
 re:qK (h+m) f (λx=>if x<i+j then out x else if x<j+h then L (x-j)else R (x-h))
 so:Srt (i+j) out
 lo:0<i+j->∀x,i<=x->x<h->le (out (i+j-1)).k (L x).k
 hi:0<i+j->∀x,j<=x->x<m->le (out (i+j-1)).k (R x).k
theorem ahy{n:Nat}{s:Nat->Nat}(hs:∀i,i<n->s i<n)(hm:∀i,i+1<n->s i<s (i+1)):∀i,i<n->s i=i:=by
 have h1:∀i,i<n->i<=s i:=by
  intro i
  induction i with
  |zero=>intro _;omega
  |succ i ih=>intro hi;have:=ih ae;have:=hm i hi;omega
 have h2:∀d i,i+d+1=n->s i<=i:=by
  intro d
  induction d with
  |zero=>intro i hi;have:=hs i ae;omega
  |succ d ih=>intro i hi;have:=ih (i+1) ae;have:=hm i ae;omega
 intro i hi;have:=h1 i hi;have:=h2 (n-i-1) i ae;omega
theorem Zm{n:Nat}{f g g':Nat->qQ}(a:qK n f g)(b:qK n f g')(hg:∀i,i+1<n->lt (g i).k (g (i+1)).k=true)(hg':Srt n g'):∀i,i<n->g' i=g i:=by
 obtain⟨s,t,h1,h2⟩:=a.symm.trans b
 have far:∀d i,i+d+1<n->lt (g i).k (g (i+d+1)).k=true:=by
  intro d
  induction d with
  |zero=>intro i hi;exact hg i hi
  |succ d ih=>intro i hi;exact lt_trans (ih i ae) (hg (i+d+1) ae)
 have hm:∀i,i+1<n->s i<s (i+1):=by
  intro i hi;rcases Nat.lt_trichotomy (s i) (s (i+1))with h|h|h
  .exact h
  .have e1:=(h1 i ae).2.2.1;have e2:=(h1 (i+1) hi).2.2.1;rw[h,e2]at e1;omega
  .have q:=far (s i-s (i+1)-1) (s (i+1)) (by have:=(h1 i ae).1;omega);rw[show s (i+1)+(s i-s (i+1)-1)+1=s i by omega]at q;have:=hg' i hi;rw[h2 i ae,h2 (i+1) hi]at this;unfold Hp.le at this;rw[this]at q;cases q
 have hid:=ahy (λi hi=>(h1 i hi).1) hm;intro i hi;rw[h2 i hi,hid i hi]
end Go.Hp
namespace Go.Proofs.Y
open Go.RowKit Go.Deep Go.Hp
theorem BC.aa5{w:World}{B n:Nat}{v:Value}{f:Nat->qQ}(h:w.ownsRow B 44 2 v n (vg n f)):∃bo cap,v=.slice bo n cap/\n<=cap/\(bo=none->cap=0)/\BC w bo n f:=by
 rcases h.2 with⟨rfl,rfl⟩|⟨g,cap,cur,rfl,h2,h3,h4,_⟩
 .exact⟨none,0,rfl,ak _,λ_=>rfl,⟨λh0=>absurd h0 ae⟩⟩
 .refine⟨_,cap,rfl,h4,(λe=>nomatch e),⟨λ_=>⟨g,0,rfl,(h.lt g rfl).2,λi hi=>?_⟩⟩⟩;have q0:=h.cellAt (i*2) ae;have q1:=h.cellAt (i*2+1) ae;rw[show i*2=i*2+0 from rfl,Ho n f i 0 hi ae]at q0;rw[Ho n f i 1 hi ae]at q1;rw[aS];exact⟨q0,q1⟩
def Jv(r x:Nat->Nat):Nat->Nat
 |0=>0
 |j+1=>Jv r x j^^^mul (r j) (x j)
theorem OL{r x:Nat->Nat}(hr:∀j,r j<256):∀n,Jv r x n<256
 |0=>by simp[Jv]
 |n+1=>jB (n:=8) (OL hr n) (mul_lt (hr n))
structure Cls(w:World)(k L bP:Nat)(a:Nat->Option Addr)(bl cp:Nat->Nat)(x:Nat->Nat->Nat):Prop where
 qx:∀j,j<k->w.cell? ⟨bP,j,none⟩=some (.slice (a j) L (cp j))
 at_:∀j m,j<k->m<L->a j=some ⟨bl j,0,none⟩/\w.cell? ⟨bl j,m,none⟩=some (.int .u8 ((x j m:Nat):Int))
theorem PZ{w w':World}{B:Nat}(h:Below B w w')(hB:w.heap.size<=B){b o:Nat}{u:Value}(hc:w.cell? ⟨b,o,none⟩=some u):w'.cell? ⟨b,o,none⟩=some u:=
 (h.cell (p:=⟨b,o,none⟩) (aN (cell_lt hc) hB)).trans hc
def aeh(n:Nat)(f:Nat->Nat):List Value:=(List.range n).map λj=>.int .u8 ((f j:Nat):Int)
end Go.Proofs.Y
namespace Go.Proofs.Y
open Go.RowKit Go.Deep
end Go.Proofs.Y
namespace Go.Proofs.Y
open Go.RowKit Go.Deep Go.Hp
theorem xE.grow{w w':World}{e:qQ}{d:List UInt8}(h:xE w e d)(_hs:w.heap.size<=w'.heap.size)(up:∀{b o:Nat}{u:Value},w.cell? ⟨b,o,none⟩=some u->w'.cell? ⟨b,o,none⟩=some u):xE w' e d:=by
 refine⟨h.1,?_⟩;rcases h.2 with h2|⟨ad,h2,h4⟩
 .exact .inl h2
 .refine .inr ⟨ad,h2,λj u hj=>?_⟩;have h5:=h4 j u hj;have hspot:=World.cell?_spot h5;generalize ad.add j=p at h5 hspot⊢;obtain⟨b,o,sp⟩:=p;dsimp only at hspot;subst hspot;exact up h5
theorem BC.up{w w':World}{bo:Option Addr}{n:Nat}{f:Nat->qQ}(h:BC w bo n f)(hs:w.heap.size<=w'.heap.size)(up:∀{b o:Nat}{u:Value},w.cell? ⟨b,o,none⟩=some u->w'.cell? ⟨b,o,none⟩=some u):BC w' bo n f:=⟨λhn=>by obtain⟨b,o,h1,h2,h3⟩:=h.here hn;exact⟨b,o,h1,aN h2 hs,λi hi=>⟨up (h3 i hi).1,up (h3 i hi).2⟩⟩⟩
def YO(l:List UInt8)(L j m:Nat):Nat:=sH l (j*L+m)
theorem cell_of_block{w:World}{b m:Nat}{cur:Array Value}{t:TypeId}{u:Value}(h:w.heap[b]?=some (.cells cur t))(hc:cur[m]?=some u):w.cell? ⟨b,m,none⟩=some u:=by simp[World.cell?,h,hc]
theorem LM{w:World}{B t n:Nat}{v:Value}{xs:List Value}(h:w.ownsRow B t 1 v n xs):Lies w v xs:=by
 have hl:=h.1;rcases h.2 with⟨rfl,rfl⟩|⟨g,cap,cur,rfl,h2,h3,h4,_⟩
 .have:xs=[]:=kD.1 ae;subst this;exact⟨none,0,rfl,ak _,λj u hj=>by simp at hj⟩
 .have e:n=xs.length:=ae;refine⟨some ⟨g,0,none⟩,cap,jP,ae,λj u hj=>⟨g,0,rfl,?_⟩⟩
  have hjl:j<n*1:=by have:=(dH.1 hj).1;omega
  rw[aS,h.cellAt j hjl];exact hj
theorem Dz(d:qQ->List UInt8)(f:Nat->qQ):∀n,(∀i,i<n->(d (f i)).length=(f i).l)->tot (qC n f)=(qW (λj=>d (f j)) n).length
 |0,_=>rfl
 |n+1,h=>by
  have ih:=Dz d f n λi hi=>h i ae
  have e:qC (n+1) f=qC n f++[((f n).l:Int)]:=by simp[qC,dm]
  rw[e];unfold tot at*;simp only[iC,iw,fH,jd,jc,lY,qW,aQ,h n ae,ih];simp
theorem aeP(n:Nat)(f:Nat->qQ):JP (qC n f):=λi hi=>by rw[wP]at hi;simp[qC,hi]
theorem DT(n:Nat)(f:Nat->qQ){i:Nat}(hi:i<n):(qA n f).getD i []=(f i).k:=by simp[qA,hi]
theorem Nw{a b:List UInt8}:P5 a b=false↔Hp.lt b a=true:=by
 have e:∀x y:List UInt8,Op.bytesLess x y=Hp.lt x y:=λ_ _=>rfl
 unfold P5;rw[e];rcases Hp.Ee a b with⟨g,h,n⟩|⟨g,h,n⟩|⟨rfl,h,_⟩
 .rw[g,h];simp
 .rw[g,h];simp[n]
 .rw[h];simp
theorem U3{n:Nat}{g:Nat->qQ}(h:uG (qA n g)):∀i,i+1<n->Hp.lt (g i).k (g (i+1)).k=true:=λi hi=>by
 have hl:(qA n g).length=n:=by simp[qA]
 have:=(h (i+1) ae).2 ae;rw[DT n g hi,f_,DT n g ae]at this;exact Nw.1 this
theorem S_{n:Nat}{f g:Nat->qQ}(hR:qK n f g)(hS:Srt n g):uG (qA n g)↔tX n f:=by
 have hl:(qA n g).length=n:=by simp[qA]
 constructor
 .intro h;refine⟨λi hi=>?_,WN hR (U3 h)⟩;obtain⟨j,hj,e⟩:=hR.symm.from hi;have:=(h j ae).1;rw[DT n g hj,<-e]at this;exact this
 .rintro⟨h1,h2⟩ i hi;rw[hl]at hi;rw[DT n g hi];refine⟨?_,λh0=>?_⟩
  .obtain⟨j,hj,e⟩:=hR.from hi;rw[e];exact h1 j hj
  .rw[DT n g ae,Nw];have hle:=hS (i-1) ae;rw[show i-1+1=i by omega]at hle;refine Hp.lt_of_le_ne hle λe=>?_
   obtain⟨x,y,hx,hy,hne,e1,e2⟩:=hR.two (i:=i-1) (j:=i) ae hi ae;rw[e1,e2]at e;rcases aT x y with q|q
   .exact h2 x y q hy e
   .exact h2 y x ae hx e.symm
theorem Jw{n:Nat}{g:Nat->qQ}(h:uG (qA n g)):PU (qA n g) (qC n g):=⟨by simp[qA,qC],h,aeP n g⟩
theorem Zn{n:Nat}{g g':Nat->qQ}(h:∀i,i<n->g' i=g i):qA n g'=qA n g:=nM λi hi=>apA
theorem Zo{n:Nat}{g g':Nat->qQ}(h:∀i,i<n->g' i=g i):qC n g'=qC n g:=nM λi hi=>apA
theorem TE{d:qQ->List UInt8}{g g':Nat->qQ}:∀n,(∀i,i<n->g' i=g i)->qW (λj=>d (g' j)) n=qW (λj=>d (g j)) n
 |0,_=>rfl
 |n+1,h=>by
  show _++_=_++_;rw[TE n λi hi=>h i ae]
  congr 1
  show d (g' n)=d (g n);rw[h n ae]
def zn(k L:Nat)(l:List UInt8)(t:Nat):List UInt8:=(List.range L).map λm=>UInt8.ofNat (Jv (sQ k t) (λj=>YO l L j m) k)
theorem wM(k L:Nat)(l:List UInt8)(t:Nat):(zn k L l t).length=L:=by simp[zn]
theorem ajf(k L:Nat)(l:List UInt8)(t:Nat):rF (zn k L l t)=aeh L λm=>Jv (sQ k t) (λj=>YO l L j m) k:=by
 unfold zn rF aeh;rw[je];refine nM λm _=>?_
 show Value.int .u8 (((UInt8.ofNat _).toNat:Nat):Int)=_;rw[fE,bu (OL (λ_=>AV) k)]
def FN(k n c:Nat)(ns:List (List UInt8))(zs:List Int)(i:Nat)(qx:List UInt8):List UInt8:=
 rV ([67,65,73,82,78,49]++([UInt8.ofNat k,UInt8.ofNat n,UInt8.ofNat i,0]++(leB 4 c++(leB 4 (uX ns zs ns.length).length++(leB 4 qx.length++[0,0])))))++rV (uX ns zs ns.length)++rU c qx (Fg c qx.length)++[68,79,78,69]
section
variable {k n c:Nat}{vN vS:Value}{L:Nat}{a:Nat->Option Addr}{cp:Nat->Nat}
end
theorem ab9{w:World}{B t s n:Nat}{v:Value}{xs:List Value}(h:w.ownsRow B t s v n xs):∃x c,v=.slice x n c:=by
 rcases h.2 with⟨e,e2⟩|⟨g,c,cur,rfl,_⟩
 .exact⟨none,0,by rw[e,e2]⟩
 .exact⟨_,_,rfl⟩
theorem Zp{w w':World}{B B' t s n:Nat}{v:Value}{xs:List Value}(h:w.ownsRow B t s v n xs)(hb:Below B' w w')(hB:w.heap.size<=B'):w'.ownsRow B t s v n xs:=
 rX h λg hg=>hb.block g (aN (h.lt g hg).2 hB)
end Go.Proofs.Y
namespace Go.Proofs.Y
open Go.RowKit Go.Deep
theorem Zq(w:World)(a b c d:Value)(t:TypeId):∀j u,[a,b,c,d][j]?=some u->(w.alloc (.cells #[a,b,c,d] t)).cell? ((⟨w.heap.size,0,none⟩:Addr).add j)=some u:=by intro j u hj;rw[Em,aS];exact(qf.made w [a,b,c,d] t).cell hj
theorem Zr(w:World)(a b:Value)(t:TypeId):∀j u,[a,b][j]?=some u->(w.alloc (.cells #[a,b] t)).cell? ((⟨w.heap.size,0,none⟩:Addr).add j)=some u:=by intro j u hj;rw[Em,aS];exact(qf.made w [a,b] t).cell hj
theorem WX(B:Nat)(v0:Value)(k n i c:Nat)(hk:k<=255)(hn:n<=255)(hi:i<=255)(hc:c<=65536)(vN vS:Value)(bc:Option Addr)(len cap:Nat)(hlen:len<=1000000)(M:Int)(m:Nat)(hM:M=m)(hm:m<=1000000)(w:World)(h0:OwnB B w v0 [])(hB:B<=w.heap.size)(hT:Tab w)(hB0:2<B):
  Calls Tryz.prog 54 #[v0,.agg #[.int .i64 (k:Int),.int .i64 (n:Int),.int .i64 (i:Int),.int .i64 (c:Int),vN,vS,.slice bc len cap],.int .i64 M] w
   λr w'=>Gives B w (rV ([67,65,73,82,78,49]++([UInt8.ofNat k,UInt8.ofNat n,UInt8.ofNat i,0]++(leB 4 c++(leB 4 m++(leB 4 len++[0,0])))))) r w':=by
 subst hM;obtain⟨i0,hi0,hz0,hz1,hz2⟩:=bg Au;have hr0:=qf.made w [.int .i64 (k:Int),.int .i64 (n:Int),.int .i64 (i:Int),.int .i64 (c:Int),vN,vS,.slice bc len cap] 55;have hOX:=h0.alloc (.cells #[.int .i64 (k:Int),.int .i64 (n:Int),.int .i64 (i:Int),.int .i64 (c:Int),vN,vS,.slice bc len cap] 55);have hbX:=(aA B w).alloc hB (.cells #[.int .i64 (k:Int),.int .i64 (n:Int),.int .i64 (i:Int),.int .i64 (c:Int),vN,vS,.slice bc len cap] 55);have hkX:=(xA.refl w).alloc (.cells #[.int .i64 (k:Int),.int .i64 (n:Int),.int .i64 (i:Int),.int .i64 (c:Int),vN,vS,.slice bc len cap] 55);obtain⟨T,eT⟩:∃T,rV ([67,65,73,82,78,49]++([UInt8.ofNat k,UInt8.ofNat n,UInt8.ofNat i,0]++(leB 4 c++(leB 4 m++(leB 4 len++[0,0])))))=T:=⟨_,rfl⟩;have ET:Hid _:=eT;rw[eT];clear eT
 have E4:Hid (rF [UInt8.ofNat k,UInt8.ofNat n,UInt8.ofNat i,0]=[.int .u8 (k:Int),.int .u8 (n:Int),.int .u8 (i:Int),.int .u8 0]):=by show _=_;simp only[rF,fH,jd,fE];rw[bu ae,bu ae,bu ae];rfl
 go_enter Tryz.func54,Tryz.ntmps54
 go_wp2_with(first
  |(at_builtin;refine Lib.wpList_append_own_string _ rfl _ _ 34 9 rfl B 5 i0 Tryz.underlying34 Tryz.underlying9 hi0 hz0 hz1 hz2 _ _ _ rfl hOX ⟨#[67,65,73,82,78,49]⟩ rfl au au az ?_;intro v1 w1 hown1 hgrow1 _;have PV:OwnB B w1 v1 ([]++[67,65,73,82,78,49]):=OwnB.more hown1 rfl;have hk1:=hOX.keeps hgrow1;have hb1:=hOX.grown hgrow1 az;have hr1:=hr0.keep hk1 au;have c0:=hr1.cell (i:=0) rfl;have c1:=hr1.cell (i:=1) rfl;have c2:=hr1.cell (i:=2) rfl;clear hown1 hgrow1 hOX hr0)
  |(at_builtin;refine dF _ rfl _ _ 34 rfl B 5 i0 (.int .u8 0) 1 1 Tryz.underlying34 hi0 hz0 hz1 hz2 rfl au _ _ _ rfl (PV.alloc _) ⟨w1.heap.size,0,none⟩ 4 4 (rF [UInt8.ofNat k,UInt8.ofNat n,UInt8.ofNat i,0]) rfl rfl (by rw[E4.out];exact Zq _ _ _ _ _ _) (Cb _) au au (by have:=hb1.size;simp at this⊢;omega) ?_;intro v2 w2 hown2 hgrow2 _;have hO2:OwnB B w2 v2 (([]++[67,65,73,82,78,49])++[UInt8.ofNat k,UInt8.ofNat n,UInt8.ofNat i,0]):=OwnB.more hown2 rfl;have hs1:B<=w1.heap.size:=by have:=hb1.size;(simp at this;omega)
    have hk2:xA w1 w2:=((xA.refl _).alloc _).trans ((PV.alloc _).keeps hgrow2);have hb2:Below B w1 w2:=((aA _ _).alloc hs1 _).trans ((PV.alloc _).grown hgrow2 az);have hr2:=hr1.keep hk2 au;have c3:=hr2.cell (i:=3) rfl;have hs2:=hb2.size;have K2:=yA (c:Int) 4 c 4 rfl ae rfl ae B v2 (([]++[67,65,73,82,78,49])++[UInt8.ofNat k,UInt8.ofNat n,UInt8.ofNat i,0]) ai w2 hO2 ae;clear hown2 hgrow2 c0 c1 c2 PV hO2 hr1)
  |(go_at_call 45;refine K2.mono ?_;clear K2;rintro r w3 ⟨v3,rfl,hO3,hb3,hk3⟩;have hs3:=hb3.size;have hr3:=hr2.keep hk3 au;have K3:=yA (m:Int) 4 m 4 rfl ae rfl ae B v3 ((([]++[67,65,73,82,78,49])++[UInt8.ofNat k,UInt8.ofNat n,UInt8.ofNat i,0])++leB 4 c) oH w3 hO3 ae;clear hO3 hr2 c3)
  |(go_at_call 45;refine K3.mono ?_;clear K3;rintro r w4 ⟨v4,rfl,hO4,hb4,hk4⟩;have hs4:=hb4.size;have hr4:=hr3.keep hk4 au;have c6:=hr4.cell (i:=6) rfl;have K4:=yA (len:Int) 4 len 4 rfl ae rfl ae B v4 (((([]++[67,65,73,82,78,49])++[UInt8.ofNat k,UInt8.ofNat n,UInt8.ofNat i,0])++leB 4 c)++leB 4 m) oH w4 hO4 ae;clear hO4 hr3 hr4)
  |(go_at_call 45;refine K4.mono ?_;clear K4;rintro r w5 ⟨v5,rfl,YF,hb5,hk5⟩;have hs5:=hb5.size;clear c6)
  |(at_builtin;refine dF _ rfl _ _ 34 rfl B 5 i0 (.int .u8 0) 1 1 Tryz.underlying34 hi0 hz0 hz1 hz2 rfl au _ _ _ rfl (YF.alloc _) ⟨w5.heap.size,0,none⟩ 2 2 (rF [0,0]) rfl rfl (Zr _ _ _ _) (Cb _) (by simp[ry];decide) oH az ?_;intro v6 w6 hown6 hgrow6 _;have hO6:OwnB B w6 v6 (((((([]++[67,65,73,82,78,49])++[UInt8.ofNat k,UInt8.ofNat n,UInt8.ofNat i,0])++leB 4 c)++leB 4 m)++leB 4 len)++[0,0]):=OwnB.more hown6 rfl;have hk6:xA w5 w6:=((xA.refl _).alloc _).trans ((YF.alloc _).keeps hgrow6);have hb6:Below B w5 w6:=((aA _ _).alloc ae _).trans ((YF.alloc _).grown hgrow6 az);have hs6:=hb6.size
    have hb7:Below B w w6:=hbX.trans (hb1.trans (hb2.trans (hb3.trans (hb4.trans (hb5.trans hb6)))));have hk7:xA w w6:=hkX.trans (hk1.trans (hk2.trans (hk3.trans (hk4.trans (hk5.trans hk6)))));have K6:=Nu B v6 (((((([]++[67,65,73,82,78,49])++[UInt8.ofNat k,UInt8.ofNat n,UInt8.ofNat i,0])++leB 4 c)++leB 4 m)++leB 4 len)++[0,0]) oH ai w6 hO6 ae (hT.below hb7 hB0);clear hown6 hgrow6 YF hO6 hb1 hb2 hb3 hb4 hb5 hb6 hbX hk1 hk2 hk3 hk4 hk5 hk6 hkX)
  |(go_at_call 46;refine K6.mono ?_;clear K6;rintro r w8 ⟨v8,rfl,hO8,hb8,hk8⟩))
 go_ret;refine⟨_,rfl,?_,hb7.trans hb8,hk7.trans hk8⟩;rw[<-ET.out];simpa[eP]using hO8
theorem OwnB.base'{B B':Nat}{w:World}{v:Value}{l:List UInt8}(h:OwnB B w v l)(hB:B'<=B):OwnB B' w v l:=by
 refine⟨h.1,?_⟩;rcases h.2 with x|⟨g,cap,cur,h1,h2,h3⟩
 .exact .inl x
 .exact .inr ⟨g,cap,cur,h1,aK hB h2,h3⟩
end Go.Proofs.Y
namespace Go.Proofs.Y
open Go.RowKit Go.Deep Go.Hp
