import Derived.Test.YtnbflnamlpodcaaGreatDoorEnK
import Derived.Test.YtnbflnamlpodcaaGreatDoorLfM
set_option maxHeartbeats 4000000
set_option maxRecDepth 100000
namespace Go.Proofs.Y
open Go.Proofs.Tryz
open Go.RowKit Go.Deep Go.Hp
section
variable {k n c:Nat}{vN vS:ai}{L:Nat}{a:Nat->aY}{cp:Nat->Nat}
end
theorem agi{w:ah}{B t s n:Nat}{v:ai}{xs:aK}(h:w.ownsRow B t s v n xs):∃x c,v=.slice x n c:=by
 rcases h.2 with⟨e,e2⟩|⟨g,c,cur,rfl,_⟩
 .exact⟨none,0,by rw[e,e2]⟩
 .exact⟨_,_,rfl⟩
theorem ads{w w':ah}{B B' t s n:Nat}{v:ai}{xs:aK}(h:w.ownsRow B t s v n xs)(hb:Below B' w w')(hB:w.heap.size<=B'):w'.ownsRow B t s v n xs:=
 rU h λg hg=>hb.block g (bG (h.lt g hg).2 hB)
end Go.Proofs.Y
namespace Go.Proofs.Y
open Go.Proofs.Tryz
open Go.RowKit Go.Deep
theorem adt(w:ah)(a b c d:ai)(t:aF):∀j u,[a,b,c,d][j]?=some u->(w.alloc (.cells #[a,b,c,d] t)).cell? ((⟨w.heap.size,0,none⟩:Addr).add j)=some u:=by intro j u hj;rw[H7,bM];exact(ql.made w [a,b,c,d] t).cell hj
theorem adu(w:ah)(a b:ai)(t:aF):∀j u,[a,b][j]?=some u->(w.alloc (.cells #[a,b] t)).cell? ((⟨w.heap.size,0,none⟩:Addr).add j)=some u:=by intro j u hj;rw[H7,bM];exact(ql.made w [a,b] t).cell hj
theorem aaW(B:Nat)(v0:ai)(k n i c:Nat)(hk:k<=255)(hn:n<=255)(hi:i<=255)(hc:c<=65536)(vN vS:ai)(bc:aY)(len cap:Nat)(hlen:len<=1000000)(M:Int)(m:Nat)(hM:M=m)(hm:m<=1000000)(w:ah)(h0:rO B w v0 [])(hB:B<=w.heap.size)(hT:Du w)(Jj:2<B):
  Calls prog 54 #[v0,.agg #[.int .i64 (k:Int),.int .i64 (n:Int),.int .i64 (i:Int),.int .i64 (c:Int),vN,vS,.slice bc len cap],.int .i64 M] w
   λr w'=>afZ B w (rJ ([67,65,73,82,78,49]++([UInt8.ofNat k,UInt8.ofNat n,UInt8.ofNat i,0]++(u_ 4 c++(u_ 4 m++(u_ 4 len++[0,0])))))) r w':=by
 subst hM;obtain⟨i0,Ak,yz,xA,wH⟩:=dm BJ;have Nq:=ql.made w [.int .i64 (k:Int),.int .i64 (n:Int),.int .i64 (i:Int),.int .i64 (c:Int),vN,vS,.slice bc len cap] 55;have hOX:=h0.alloc (.cells #[.int .i64 (k:Int),.int .i64 (n:Int),.int .i64 (i:Int),.int .i64 (c:Int),vN,vS,.slice bc len cap] 55);have hbX:=(aT B w).alloc hB (.cells #[.int .i64 (k:Int),.int .i64 (n:Int),.int .i64 (i:Int),.int .i64 (c:Int),vN,vS,.slice bc len cap] 55);have hkX:=(zf.refl w).alloc (.cells #[.int .i64 (k:Int),.int .i64 (n:Int),.int .i64 (i:Int),.int .i64 (c:Int),vN,vS,.slice bc len cap] 55);obtain⟨T,eT⟩:∃T,rJ ([67,65,73,82,78,49]++([UInt8.ofNat k,UInt8.ofNat n,UInt8.ofNat i,0]++(u_ 4 c++(u_ 4 m++(u_ 4 len++[0,0])))))=T:=⟨_,rfl⟩;have ET:Hid _:=eT;rw[eT];clear eT
 have E4:Hid (sJ [UInt8.ofNat k,UInt8.ofNat n,UInt8.ofNat i,0]=[.int .u8 (k:Int),.int .u8 (n:Int),.int .u8 (i:Int),.int .u8 0]):=by show _=_;simp only[sJ,gU,jU,fP];rw[cu ag,cu ag,cu ag];rfl
 go_enter func54,ntmps54
 go_wp2_with(first
  |(at_builtin;refine Lib.wpList_append_own_string _ rfl _ _ 34 9 rfl B 5 i0 underlying34 underlying9 Ak yz xA wH _ _ _ rfl hOX ⟨#[67,65,73,82,78,49]⟩ rfl aC aC aS ?_;intro v1 w1 Hm Cf _;have UJ:rO B w1 v1 ([]++[67,65,73,82,78,49]):=rO.more Hm rfl;have KP:=hOX.keeps Cf;have uu:=hOX.grown Cf aS;have xK:=Nq.Bz KP aC;have c0:=xK.cell (i:=0) rfl;have c1:=xK.cell (i:=1) rfl;have c2:=xK.cell (i:=2) rfl;clear Hm Cf hOX Nq)
  |(at_builtin;refine eP _ rfl _ _ 34 rfl B 5 i0 (.int .u8 0) 1 1 underlying34 Ak yz xA wH rfl aC _ _ _ rfl (UJ.alloc _) ⟨w1.heap.size,0,none⟩ 4 4 (sJ [UInt8.ofNat k,UInt8.ofNat n,UInt8.ofNat i,0]) rfl rfl (by rw[E4.out];exact adt _ _ _ _ _ _) (FO _) aC aC (by have:=uu.size;simp at this⊢;omega) ?_;intro v2 w2 zh xW _;have Ot:rO B w2 v2 (([]++[67,65,73,82,78,49])++[UInt8.ofNat k,UInt8.ofNat n,UInt8.ofNat i,0]):=rO.more zh rfl;have yE:B<=w1.heap.size:=by have:=uu.size;(simp at this;omega)
    have P7:zf w1 w2:=((zf.refl _).alloc _).trans ((UJ.alloc _).keeps xW);have tX:Below B w1 w2:=((aT _ _).alloc yE _).trans ((UJ.alloc _).grown xW aS);have Hl:=xK.Bz P7 aC;have c3:=Hl.cell (i:=3) rfl;have zU:=tX.size;have K2:=zZ (c:Int) 4 c 4 rfl ag rfl ag B v2 (([]++[67,65,73,82,78,49])++[UInt8.ofNat k,UInt8.ofNat n,UInt8.ofNat i,0]) ax w2 Ot ag;clear zh xW c0 c1 c2 UJ Ot xK)
  |(go_at_call 45;refine K2.mono ?_;clear K2;rintro r w3 ⟨v3,rfl,hO3,wI,hk3⟩;have xI:=wI.size;have hr3:=Hl.Bz hk3 aC;have K3:=zZ (m:Int) 4 m 4 rfl ag rfl ag B v3 ((([]++[67,65,73,82,78,49])++[UInt8.ofNat k,UInt8.ofNat n,UInt8.ofNat i,0])++u_ 4 c) avi w3 hO3 ag;clear hO3 Hl c3)
  |(go_at_call 45;refine K3.mono ?_;clear K3;rintro r w4 ⟨v4,rfl,hO4,hb4,hk4⟩;have hs4:=hb4.size;have hr4:=hr3.Bz hk4 aC;have c6:=hr4.cell (i:=6) rfl;have K4:=zZ (len:Int) 4 len 4 rfl ag rfl ag B v4 (((([]++[67,65,73,82,78,49])++[UInt8.ofNat k,UInt8.ofNat n,UInt8.ofNat i,0])++u_ 4 c)++u_ 4 m) avi w4 hO4 ag;clear hO4 hr3 hr4)
  |(go_at_call 45;refine K4.mono ?_;clear K4;rintro r w5 ⟨v5,rfl,hO5,P_,hk5⟩;have DY:=P_.size;clear c6)
  |(at_builtin;refine eP _ rfl _ _ 34 rfl B 5 i0 (.int .u8 0) 1 1 underlying34 Ak yz xA wH rfl aC _ _ _ rfl (hO5.alloc _) ⟨w5.heap.size,0,none⟩ 2 2 (sJ [0,0]) rfl rfl (adu _ _ _ _) (FO _) (by simp[ru];decide) avi aS ?_;intro v6 w6 Tj aeP _;have hO6:rO B w6 v6 (((((([]++[67,65,73,82,78,49])++[UInt8.ofNat k,UInt8.ofNat n,UInt8.ofNat i,0])++u_ 4 c)++u_ 4 m)++u_ 4 len)++[0,0]):=rO.more Tj rfl;have hk6:zf w5 w6:=((zf.refl _).alloc _).trans ((hO5.alloc _).keeps aeP);have hb6:Below B w5 w6:=((aT _ _).alloc ag _).trans ((hO5.alloc _).grown aeP aS);have hs6:=hb6.size
    have hb7:Below B w w6:=hbX.trans (uu.trans (tX.trans (wI.trans (hb4.trans (P_.trans hb6)))));have hk7:zf w w6:=hkX.trans (KP.trans (P7.trans (hk3.trans (hk4.trans (hk5.trans hk6)))));have K6:=RN B v6 (((((([]++[67,65,73,82,78,49])++[UInt8.ofNat k,UInt8.ofNat n,UInt8.ofNat i,0])++u_ 4 c)++u_ 4 m)++u_ 4 len)++[0,0]) avi ax w6 hO6 ag (hT.below hb7 Jj);clear Tj aeP hO5 hO6 uu tX wI hb4 P_ hb6 hbX KP P7 hk3 hk4 hk5 hk6 hkX)
  |(go_at_call 46;refine K6.mono ?_;clear K6;rintro r w8 ⟨v8,rfl,hO8,hb8,hk8⟩))
 go_ret;refine⟨_,rfl,?_,hb7.trans hb8,hk7.trans hk8⟩;rw[<-ET.out];simpa[fK]using hO8
theorem rO.asv{B B':Nat}{w:ah}{v:ai}{l:ak}(h:rO B w v l)(hB:B'<=B):rO B' w v l:=by
 refine⟨h.1,?_⟩;rcases h.2 with x|⟨g,cap,cur,h1,h2,h3⟩
 .exact .inl x
 .exact .inr ⟨g,cap,cur,h1,bu hB h2,h3⟩
end Go.Proofs.Y
namespace Go.Proofs.Y
open Go.Proofs.Tryz
open Go.RowKit Go.Deep Go.Hp
structure WX(w:ah)(bo:aY)(m cap:Nat)(f:Nat->qX)(d:qX->ak):Prop where
 hm:m<=1048576
 Ci:m<=cap
 hbo:bo=none->cap=0
 hk:∀i,i<m->(f i).k.length<=9223372036854775807
 hl:∀i,i<m->(f i).l<=9223372036854775807
 bc:BC w bo m f
 dat:∀i,i<m->zn w (f i) (d (f i))
end Go.Proofs.Y
namespace Go.Proofs.Y
open Go.Proofs.Tryz
open Go.RowKit Go.Deep
theorem Zp{w:ah}{N:Nat}{c:aB}{t:aF}(c':aB)(h:w.heap[N]?=some (.cells c t)):(w.setRow N c').heap[N]?=some (.cells c' t):=by simp[World.setRow,iJ,h]
theorem W9(w:ah){N b:Nat}(c':aB)(h:b≠N):(w.setRow N c').heap[b]?=w.heap[b]?:=by simp[World.setRow,iJ,dU h]
theorem Zq(w:ah)(N:Nat)(c':aB):(w.setRow N c').heap.size=w.heap.size:=by simp[World.setRow]
structure aoA(w:ah)(k L P F:Nat)(l:ak)(w':ah):Prop where
 list:w'.rowIs P 34 k (λj=>.slice (some ⟨F,j*L,none⟩) L (k*L-j*L))
 row:w'.rowIs F 5 (k*L) (λj=>.int .u8 ((tZ l j:Nat):Int))
 lo:w.heap.size<=P/\w.heap.size<=F
 AO:Below w.heap.size w w'
theorem aaX(w:ah)(F n:Nat)(vd:ai)(l:ak)(hv:qU w vd (sJ l))(hn:l.length<=n)(hF:w.rowIs F 5 n (λ_=>.int .u8 0)):
  ∃w',(Builtin.copy_ #[34,34] 3 #[.slice (some ⟨F,0,none⟩) n n,vd]).run prog w=.ok (goInt l.length) w'/\w'.rowIs F 5 n (λj=>.int .u8 ((tZ l j:Nat):Int))/\(∀b,b≠F->w'.heap[b]?=w.heap[b]?)/\w'.heap.size=w.heap.size/\w'.os=w.os/\w'.tape=w.tape/\w'.output=w.output:=by
 obtain⟨cur,hc1,Wq,hc3⟩:=hF;obtain⟨i0,hi,_,xA,_⟩:=dm Tryz.ae8;have hsz:(prog.info? 5).map (·.size)=some 1:=by rw[hi];simp[xA]
 obtain⟨ba,cap,rfl,hle,hcell⟩:=hv;rcases fE l.length with h0|h0
 .obtain rfl:l=[]:=l7 h0;refine⟨w,?_,⟨cur,hc1,Wq,λi hi=>by rw[hc3 i hi];rfl⟩,λ_ _=>rfl,rfl,rfl,rfl,rfl⟩;cases ba<;>simp[sJ,Builtin.copy_,run_underlying underlying34,Builtin.lenOf,Builtin.firstCells,sizeOf,typeInfo,hi,loadCells,loadCellsFrom,storeCells]
 .obtain⟨b,off,rfl,_⟩:=hcell 0 ((sJ l)[0]'(by simpa[sJ]using h0)) ax
  have alj:∀j v,(sJ l)[j]?=some v->w.cell? ((⟨b,off,none⟩:Addr).add j)=some v:=λj v hj=>by obtain⟨b',ahO,e,h⟩:=hcell j v hj;cases e;rw[show(⟨b,off,none⟩:Addr).add j=⟨b,off+j,none⟩from by unfold Addr.add;by_cases h:j=0<;>simp[h]];exact h
  have hl:(sJ l).length=l.length:=eX;have sW:=run_copy_row prog w 34 34 3 5 F 0 n n ⟨b,off,none⟩ (sJ l).length cap cur 5 (sJ l) underlying34 hsz hc1 (by rw[hl];exact(oP hn).symm) alj (by rw[hl,Wq];omega) (FO l);rw[hl]at sW;refine⟨_,by rw[hl];exact sW,⟨_,Zp _ hc1,?_,λi hi=>?_⟩,λb hb=>W9 w _ hb,Zq _ _ _,rfl,rfl,rfl⟩
  .simp[Wq,hl];omega
  .simp only[lT,dA,bM];rw[pz];by_cases h:i<l.length
   .rw[gV (by rw[hl];exact h),wJ h]
   .rw[jE oz,avW,hl,show l.length+(i-l.length)=i by omega,pV,hc3 i hi];simp[tZ,g_ (show l.length<=i by omega)]
theorem al1(k:Nat)(hk0:1<=k)(hk:k<=128)(vd:ai)(l:ak)(hl:l.length<=65536)(w:ah)(hv:qU w vd (sJ l)):
  Calls prog 47 #[.int .i64 ((k:Nat):Int),vd] w λe w'=>∃P F,e=.returned (.slice (some ⟨P,0,none⟩) k k)/\aoA w k (ug k l.length) P F l w':=by
 have c1:=FP (k:Int) (l.length:Int) k l.length rfl rfl hk0 ag hl;have hL1:ug k l.length*k<l.length+k:=by unfold ug;have:=Nat.div_mul_le_self (l.length+k-1) k;omega
 have hL2:l.length<=k*ug k l.length:=by unfold ug;have:=Nat.lt_div_mul_add (a:=l.length+k-1) (b:=k) ag;rw[gu];omega
 have hLb:ug k l.length<=65536:=by unfold ug;exact Nat.div_le_of_le_mul (by have:=kR hk0 (az 65536);omega)
 generalize hL:ug k l.length=L at*;have hkL:k*L<=65536+128:=by rw[gu];omega
 have hlv:∃ba cap,vd=.slice ba l.length cap:=by obtain⟨ba,cap,rfl,_⟩:=hv;exact⟨ba,cap,eX⟩
 have hm1:∀w:ah,(Instr.makeSlice 34 (.int .i64 ((k*L:Nat):Int)) (.int .i64 ((k*L:Nat):Int))).run prog w=.ok (.slice (some ⟨w.heap.size,0,none⟩) (k*L) (k*L)) (w.alloc (.cells (madeCells #[.int .u8 0] (k*L)) 5)):=
  λw=>run_make_row' (P:=prog) 34 5 (.int .u8 0) 1 underlying34 Tryz.ae8 rfl .i64 .i64 (k*L) ag ag w
 have hmul:((k:Nat):Int)*((L:Nat):Int)=((k*L:Nat):Int):=ax;have z1:=World.rowIs_made w (.int .u8 0) (k*L) 5;have b1:Below w.heap.size w (w.alloc (.cells (madeCells #[.int .u8 0] (k*L)) 5)):=(aT _ _).alloc (az _) _;have s1:(w.alloc (.cells (madeCells #[.int .u8 0] (k*L)) 5)).heap.size=w.heap.size+1:=ax;obtain⟨w2,hcp,r2,o2,s2,h2a,h2b,h2c⟩:=aaX _ w.heap.size (k*L) vd l (hv.below b1) hL2 z1;have b2:Below w.heap.size w w2:=⟨h2a,h2b,h2c,ag,λb hb=>axy⟩;have aoB:=hm1 w;have m2:=EJ k hk w2;have z2:=World.rowIs_made w2 (.slice none 0 0) k 34;have b3:Below w.heap.size w (w2.alloc (.cells (madeCells #[.slice none 0 0] k) 34)):=b2.alloc ag _;have r3:=r2.alloc (.cells (madeCells #[.slice none 0 0] k) 34);have zU:w2.heap.size=w.heap.size+1:=ag;rw[zU]at m2 z2;generalize madeCells #[.int .u8 0] (k*L)=Z1 at*;generalize madeCells #[.slice none 0 0] k=Z2 at*;obtain⟨ba,cap,rfl⟩:=hlv;generalize FI:l.length=n at*;have hLk:L*k=k*L:=gu _ _;clear hm1 s1 o2 s2 h2a h2b h2c z1 b1 hv hmul;have hmul:((k:Nat):Int)*((L:Nat):Int)=((k*L:Nat):Int):=ax;generalize hKL:k*L=kL at*;go_enter func47,ntmps47
 go_wp2_with(first|(go_at_call 77;(with_reducible refine(c1 _).mono ?_);rintro e w' ⟨rfl,uf⟩;obtain rfl:=uf.symm))
 clear hcp aoB m2 c1;have hne:w.heap.size+1≠w.heap.size:=ag;generalize w2.alloc (Obj.cells Z2 34)=w3 at*;clear r2 b2
 go_loopw [8,24] (λ_ vi wr=>∃j:Nat,j<=k/\vi=.int .i64 ((j:Nat):Int)/\wr.rowIs (w.heap.size+1) 34 k (λi=>if i<j then .slice (some ⟨w.heap.size,i*L,none⟩) L (kL-i*L)else .slice none 0 0)/\wr.rowIs w.heap.size 5 kL (λj=>.int .u8 ((tZ l j:Nat):Int))/\Below w.heap.size w wr) (λ_ i _=>k-(intOf i).toNat)
 case atStart=>exact⟨0,ag,rfl,z2.congr λi _=>iq,r3,b3⟩
 case round=>
  obtain⟨j,hj,rfl,hR,hr,hb⟩:=hrel;by_cases qK:j<k
  .have Am:(j:Int)<(k:Int):=ag;have hjL:j*L+L<=kL:=by rw[<-hKL,<-gQ];exact jS L qK
   have hm1:((j:Nat):Int)*((L:Nat):Int)=((j*L:Nat):Int):=ax;have hm2:(((j:Nat):Int)+1)*((L:Nat):Int)=((j*L+L:Nat):Int):=by rw[Int.add_mul];simp
   have g0:=hR.cell qK;rw[au ag]at g0;have g1:=hR.frozen j
   have Fz:=(hR.set j (.slice (some ⟨w.heap.size,j*L,none⟩) L (kL-j*L))).congr (g:=λi=>if i<j+1 then .slice (some ⟨w.heap.size,i*L,none⟩) L (kL-i*L)else .slice none 0 0) (λi _=>by
    by_cases e:i=j
    .subst e;rw[ay rfl,ay ag]
    .rw[au e];by_cases e2:i<j
     .rw[ay e2,ay ag]
     .rw[au e2,au ag])
   have Hl:=hr.setOther (a:=⟨w.heap.size+1,j,none⟩) awr (.slice (some ⟨w.heap.size,j*L,none⟩) L (kL-j*L));have tX:=hb.setCell (p:=⟨w.heap.size+1,j,none⟩) aws (.slice (some ⟨w.heap.size,j*L,none⟩) L (kL-j*L));clear hR hr hb z2 r3 b3
   have hif:kL=j*L->j*L=0:=λe=>by have:L=0:=ag;rw[this,Nat.mul_zero]
   generalize Oq:j*L=jL at*
   have auK:(if kL=jL then some (⟨w.heap.size,0,none⟩:Addr)else some ⟨w.heap.size,jL,none⟩)=some ⟨w.heap.size,jL,none⟩:=by
    by_cases e:kL=jL
    .rw[ay e,hif e]
    .rw[au e]
   clear hif;have d1:(jL:Int)<=((jL+L:Nat):Int):=ag;have d2:((jL+L:Nat):Int)<=(kL:Int):=ag;have d3:jL+L-jL=L:=ag;go_wp2
   go_roundw
   case rel=>exact⟨j+1,ag,bU,Fz,Hl,tX⟩
   case measure=>simp[intOf];omega
  .obtain rfl:j=k:=ag;have Hg:¬((j:Int)<(j:Int)):=ag;go_wp2;go_ret;rw[<-hKL]at hr;exact⟨w.heap.size+1,rfl,w.heap.size,hR.congr λi hi=>by rw[ay hi,hKL],hr,⟨ag,az _⟩,hb⟩
end Go.Proofs.Y
namespace Go.Proofs.Y
open Go.Proofs.Tryz
open Go.Conc Go.RowKit Go.Gh
open Go.ConcR (Payload)
section
variable {main:Bool}{R:ah->ah->Prop}{D:ah->ah->aH->Prop}
def MI(R:ah->ah->Prop)(w0:ah)(m:Nat)(a:Act)(w:ah):Prop:=∃(k p x y:Nat)(v2 v3 v4 v7 v8 v9 v10 v11 v12 Wx XR Qa Oh Ud Qk Ql:ai),k<=8/\p<256/\x<256/\y<256/\Hid (FH (8-k) p x y=m)/\Since R w0 w/\a=⟨#[.int .u8 ((x:Nat):Int),.int .u8 ((y:Nat):Int),v2,v3,v4,.int .u8 ((p:Nat):Int),.int .i64 ((k:Nat):Int),v7,v8,v9,v10,v11,v12,Wx,XR,Qa,Oh,Ud,Qk,Ql],[]⟩
def muM(a:Act)(_:ah):Nat:=8-(intOf (a.tmps.getD 6 undef)).toNat
theorem aqX(T:Terms R D):∃n,∀(a b:Nat)(w:ah),a<256->b<256->CallsC prog main R D 119 #[.int .u8 (a:Int),.int .u8 (b:Int)] n w λv w'=>v=.int .u8 (mul a b:Nat)/\Since R w w':=by
 obtain⟨kx,hx⟩:=aaY (main:=main) T;co_apply Exists.intro;intro a b w ha hb;co_apply callsC_of_wpC func119 aI rfl;have hF:Since R w w:=.refl w;simp only[ntmps119,fU,dJ,dY,Nat.reduceAdd,Nat.reduceSub,dR,dQ,dM,dP,dA,bT]
 co_go T (Since.rely T) hF (co_quiet T)
 co_apply kJ T (MI R w (mul a b)) muM _ 8
 .exact⟨0,0,a,b,_,_,_,_,_,_,_,_,_,_,_,_,_,_,_,_,ag,ag,ha,hb,rfl,hF,rfl⟩
 .simp[muM]
 .rintro act w' ⟨k,p,x,y,v2,v3,v4,v7,v8,v9,v10,v11,v12,Wx,XR,Qa,Oh,Ud,Qk,Ql,hk,hp,hx',hy,H,hF,rfl⟩
  co_go T (Since.rely T) hF (co_quiet T)
  co_split T (decide (((k:Nat):Int)<8))
  .intro qK;have Am:k<8:=awU;clear qK;have hand:=ae9 y hy;have G:=Qx Am H.out;clear H
   co_ctl T
   co_then
   co_ctl T
   co_ctl T
   co_apply wpC_seq_mid T (λa' w'=>∃(p':Nat)(v8 v9 v10 v11 v12 Wx:ai),p'<256/\p'=(if y%2=1 then p^^^x else p)/\Since R w w'/\a'=⟨#[.int .u8 ((x:Nat):Int),.int .u8 ((y:Nat):Int),v2,v3,v4,.int .u8 ((p':Nat):Int),.int .i64 ((k:Nat):Int),.bool (decide (((k:Nat):Int)<8)),v8,v9,v10,v11,v12,Wx,XR,Qa,Oh,Ud,Qk,Ql],[]⟩)
   .co_go T (Since.rely T) hF (co_quiet T)
    co_split T (((y:Nat):Int)%2==1)
    .intro h1;have h2:y%2=1:=avh;clear h1
     co_go T (Since.rely T) hF (co_quiet T)
     rw[aaZ hp hx'];exact⟨p^^^x,_,_,_,_,_,_,Dx hp hx',by rw[ay h2],hF,rfl⟩
    .intro h1;have h2:¬y%2=1:=avh;clear h1
     co_go T (Since.rely T) hF (co_quiet T)
     exact⟨p,_,_,_,_,_,_,hp,by rw[au h2],hF,rfl⟩
   .clear hF;rintro a' w' ⟨p',v8,v9,v10,v11,v12,Wx,hp',Ej,hF,rfl⟩;rw[<-Ej]at G;clear Ej
    co_go T (Since.rely T) hF (co_quiet T)
    co_apply opsC_call T rfl aI rfl
    .walk_nrm;exact hx _ _ hx'
    rintro v w' ⟨rfl,hs⟩;replace hF:Since R w w':=hs.elim (λe=>e▸hF) (λr=>Since.rely T hF r);clear hs;walk_nrm
    co_go T (Since.rely T) hF (co_quiet T)
    have e1:((y:Nat):Int)/2=((y/2:Nat):Int):=ag;have e2:IntKind.i64.wrap (((k:Nat):Int)+1)=((k+1:Nat):Int):=iw;simp only[e1,e2];refine⟨⟨k+1,p',tx x,y/2,_,_,_,_,_,_,_,_,_,_,_,_,_,_,_,_,ag,hp',ML hx',ag,G,hF,rfl⟩,?_⟩;simp[muM,intOf];omega
  .intro qK;obtain rfl:k=8:=ax1;clear qK
   co_go T (Since.rely T) hF (co_quiet T)
   refine⟨rfl,_,resultsC_tmp aI _,?_,hF⟩;have G:p=mul a b:=H.out;simp[G]
def II(R:ah->ah->Prop)(w0:ah)(m:Nat)(a:Act)(w:ah):Prop:=∃(k p x:Nat)(v0 v1 v2 v5 v7 v8 v9 v10 v11 v12 Wx XR Qa:ai),k<=7/\p<256/\x<256/\Hid (ado (7-k) p x=m)/\Since R w0 w/\a=⟨#[v0,v1,v2,.int .u8 ((p:Nat):Int),.int .u8 ((x:Nat):Int),v5,.int .i64 ((k:Nat):Int),v7,v8,v9,v10,v11,v12,Wx,XR,Qa],[]⟩
def aoC(a:Act)(_:ah):Nat:=7-(intOf (a.tmps.getD 6 undef)).toNat
theorem aqY(T:Terms R D):∃n,∀(a:Nat)(w:ah),a<256->CallsC prog main R D 93 #[.int .u8 (a:Int)] n w λv w'=>v=.int .u8 (inv a:Nat)/\Since R w w':=by
 obtain⟨kx,hx⟩:=aqX (main:=main) T;co_apply Exists.intro;intro a w ha;co_apply callsC_of_wpC func93 aI rfl;have hF:Since R w w:=.refl w;simp only[ntmps93,fU,dJ,dY,Nat.reduceAdd,Nat.reduceSub,dR,dQ,dM,dP,dA,bT]
 co_go T (Since.rely T) hF (co_quiet T)
 co_apply kJ T (II R w (inv a)) aoC _ 7
 .exact⟨0,a,1,_,_,_,_,_,_,_,_,_,_,_,_,_,ag,ha,ag,rfl,hF,rfl⟩
 .simp[aoC]
 .rintro act w' ⟨k,p,x,v0,v1,v2,v5,v7,v8,v9,v10,v11,v12,Wx,XR,Qa,hk,hp,hx',H,hF,rfl⟩
  co_go T (Since.rely T) hF (co_quiet T)
  co_split T (decide (((k:Nat):Int)<7))
  .intro qK;have Am:k<7:=awU;clear qK;have hpp:mul p p<256:=mul_lt hp
   co_go T (Since.rely T) hF (co_quiet T)
   co_apply opsC_call T rfl aI rfl
   .walk_nrm;exact hx _ _ _ hp hp
   rintro v w' ⟨rfl,hs⟩;replace hF:Since R w w':=hs.elim (λe=>e▸hF) (λr=>Since.rely T hF r);clear hs;walk_nrm
   co_go T (Since.rely T) hF (co_quiet T)
   co_apply opsC_call T rfl aI rfl
   .walk_nrm;exact hx _ _ _ hx' hpp
   rintro v w' ⟨rfl,hs⟩;replace hF:Since R w w':=hs.elim (λe=>e▸hF) (λr=>Since.rely T hF r);clear hs;walk_nrm
   co_go T (Since.rely T) hF (co_quiet T)
   have e2:IntKind.i64.wrap (((k:Nat):Int)+1)=((k+1:Nat):Int):=iw;simp only[e2];refine⟨⟨k+1,mul p p,mul x (mul p p),_,_,_,_,_,_,_,_,_,_,_,_,_,ag,hpp,mul_lt hx',Ya Am H.out,hF,rfl⟩,?_⟩;simp[aoC,intOf];omega
  .intro qK;obtain rfl:k=7:=ax1;clear qK
   co_go T (Since.rely T) hF (co_quiet T)
   refine⟨rfl,_,resultsC_tmp aI _,?_,hF⟩;have G:x=inv a:=H.out;simp[G]
end
def Qy(k i c:Nat):aA:=(List.range k).map λj=>if j<c then uB k i j else 0
theorem agj(k i:Nat):Qy k i 0=List.replicate k 0:=by unfold Qy;apply jk;intro j;by_cases h:j<k<;>simp[h]
theorem air(k i c:Nat)(hc:c<k):(Qy k i c).set c (uB k i c)=Qy k i (c+1):=by
 unfold Qy;apply jk;intro j;rw[lZ];by_cases h:c=j
 .subst h;simp[hc]
 .rw[au h];by_cases hj:j<k
  .simp only[dO,nO hj,fA];by_cases h1:j<c
   .rw[ay h1,ay ag]
   .rw[au h1,au ag]
  .simp[hj]
theorem ais(k i:Nat):Qy k i k=(List.range k).map (uB k i):=by unfold Qy;exact jW λj hj=>by rw[ay jH]
theorem agk(k i:Nat)(hi:i<k):(List.replicate k 0).set i 1=(List.range k).map (uB k i):=by
 apply jk;intro j;rw[lZ];by_cases h:i=j
 .subst h;simp[hi,uB]
 .rw[au h];by_cases hj:j<k
  .simp[hj,uB,hi,dU h]
  .simp[hj]
section
variable [Payload][rq]{main:Bool}{Wg C n B:Nat}{Cl:Nat->Prop}
omit [rq]in
theorem CG.set{w0 w:ah}(h0:Bs C B w0){N:Nat}{cur:aA}(h:CG Wg C n B Cl w0 N cur w)(i x:Nat):CG Wg C n B Cl w0 N (cur.set i x) (w.setCell ⟨N,i,none⟩ (.int .u8 ((x:Nat):Int))):=
 ⟨h.bs.set _ _,aa0 h.ex h0 h.lo _,h.lo,sQ (w:=w) (w':=w.setCell _ _) rfl eY h.mn,by rw[heap_set w h.hx,UG]⟩
omit [Payload][rq]in
theorem ait(k:Nat)(hk:k<=128):(∀w:ah,(Instr.makeSlice 34 (.int .i64 (k:Int)) (.int .i64 (k:Int))).run prog w=.ok (.slice (some ⟨w.heap.size,0,none⟩) k k) (w.alloc (.cells (madeCells #[.int .u8 0] k) 5)))/\∀(w:ah)(es:aH),(Instr.makeSlice 34 (.int .i64 (k:Int)) (.int .i64 (k:Int))).events prog w es=es:=by
 obtain⟨i0,hi,yz,xA,wH⟩:=dm Uh;refine⟨λw=>?_,λw es=>?_⟩
 .have:=jQ (P:=prog) w 34 5 i0 (.int .u8 0) underlying34 hi yz .i64 .i64 (k:Int) (k:Int) ag ag ik ag;rw[xA,show(Value.int .u8 0).cells=#[.int .u8 0]from rfl]at this;exact ayh
 .exact events_make (P:=prog) w 34 5 i0 (.int .u8 0) underlying34 hi yz .i64 .i64 (k:Int) (k:Int) ag ag ik ag awt es
theorem agl(k i:Nat)(hk:k<=128)(hi:i<k):∃q,∀(w:ah),Bs C B w->
  CallsC prog main (Ro Wg C n B Cl) (Dg Wg C n B Cl) 92 #[.int .i64 ((k:Nat):Int),.int .i64 ((i:Nat):Int)] q w λv w'=>∃N,v=.slice (some ⟨N,0,none⟩) k k/\CG Wg C n B Cl w N ((List.range k).map (uB k i)) w':=by
 obtain⟨Y_,hme⟩:=ait k hk;have hiI:(i:Int)<(k:Int):=ag;co_apply Exists.intro;intro w hb;co_apply callsC_of_wpC func92 aI rfl;simp only[ntmps92,fU,dJ,dY,Nat.reduceAdd,Nat.reduceSub,dR,dQ,dM,dP,dA,bT];have hF:CF Wg C n B Cl w w:=⟨hb,.refl w⟩;co_apply bY qj;co_reg qj;co_op CF.rely hF (co_quiet qj);co_apply bV qj;co_then;co_apply bY qj;co_reg qj;co_op CF.rely hF (co_quiet qj)
 co_opw CF.rely hF (skip) (rw[listed_nil kZ];exact zC hF.bs.hC _ rfl)
 replace hF:=hF.alloc k;generalize hN:Array.size (World.heap _)=N at hF⊢;clear hN;co_op CG.rely hF (co_quiet qj);co_apply bV qj;co_then;co_apply bY qj;co_reg qj;co_op CG.rely hF (co_quiet qj);co_op CG.rely hF (co_quiet qj)
 co_opw CG.rely hF (skip) (co_still qj)
 have hNC:N≠C:=ax4;have hu:∀{w:ah}(h:w.heap[N]?=some (.cells (uh (List.replicate k 0)) 5)),w.cell? ⟨N,i,none⟩=some (.int .u8 0)/\w.frozen? ⟨N,i,none⟩=false:=λh=>⟨by rw[cell_of _ h,yK];simp[hi],wK _ h i⟩
 co_opw CG.rely hF (have hc:=(hu hF.hx).1;have hz:=(hu hF.hx).2) (refine Qw hF.mn hNC (hF.bs.lt hF.mn) ?_;co_evs (exact⟨_,_,rfl,rfl⟩))
 replace hF:=hF.set hb i 1;rw[agk k i hi]at hF;clear hc hz;co_apply bV qj;co_then;co_apply bY qj;co_reg qj;co_op CG.rely hF (co_quiet qj);co_op CG.rely hF (co_quiet qj);co_apply bV qj;co_then;co_apply wpC_ret qj;exact ayr
def RoI(Wg C n B:Nat)(Cl:Nat->Prop)(w0:ah)(k i N:Nat)(a:Act)(w:ah):Prop:=
 ∃(j:Nat)(v2 v3 v4 v6 v7 v8 v9 v10 v11 v12 Wx XR Qa Qk Ql v20 v21 v22 Ux v24 Qm v26 v27 v28 v29:ai),j<=k/\CG Wg C n B Cl w0 N (Qy k i j) w/\a=⟨#[.int .i64 ((k:Nat):Int),.int .i64 ((i:Nat):Int),v2,v3,v4,.slice (some ⟨N,0,none⟩) k k,v6,v7,v8,v9,v10,v11,v12,Wx,XR,Qa,.int .i64 ((k:Nat):Int),.int .i64 ((j:Nat):Int),Qk,Ql,v20,v21,v22,Ux,v24,Qm,v26,v27,v28,v29],[]⟩
def muR(k:Nat)(a:Act)(_:ah):Nat:=k-(intOf (a.tmps.getD 17 undef)).toNat
theorem aqZ(k i:Nat)(hk:k<=128)(hi:i<128):∃q,∀(w:ah),Bs C B w->
  CallsC prog main (Ro Wg C n B Cl) (Dg Wg C n B Cl) 52 #[.int .i64 ((k:Nat):Int),.int .i64 ((i:Nat):Int)] q w λv w'=>∃N,v=.slice (some ⟨N,0,none⟩) k k/\CG Wg C n B Cl w N ((List.range k).map (uB k i)) w':=by
 obtain⟨Y_,hme⟩:=ait k hk;by_cases WT:i<k
 .obtain⟨qu,hu⟩:=agl (main:=main) (Wg:=Wg) (C:=C) (n:=n) (B:=B) (Cl:=Cl) k i hk WT;have hiI:(i:Int)<(k:Int):=ag;co_apply Exists.intro;intro w hb;co_apply callsC_of_wpC func52 aI rfl;simp only[ntmps52,fU,dJ,dY,Nat.reduceAdd,Nat.reduceSub,dR,dQ,dM,dP,dA,bT];have hF:CF Wg C n B Cl w w:=⟨hb,.refl w⟩;co_apply bY qj;co_reg qj;co_op CF.rely hF (co_quiet qj);co_apply bV qj;co_then;co_apply bY qj (n₂:=0);co_apply bY qj;co_reg qj;co_op CF.rely hF (co_quiet qj);co_op CF.rely hF (co_quiet qj);co_op CF.rely hF (co_quiet qj);co_apply bV qj;co_then;co_apply wpC_cond qj (t:=true)
  focus(simp[Act.eval])
  simp only[aX]
  co_go qj CF.rely hF (co_quiet qj)
  co_apply opsC_call qj rfl aI rfl
  .walk_nrm;exact hu _ hF.bs
  rintro v w' ⟨N,rfl,hg⟩;replace hF:CG Wg C n B Cl w N ((List.range k).map (uB k i)) w':=⟨hg.bs,hF.ex.trans hg.ex,bu hF.ex.size hg.lo,hg.mn,hg.hx⟩;clear hg;walk_nrm
  co_go qj CG.rely hF (co_quiet qj)
  exact ayr
 .obtain⟨qi,hv⟩:=aqY (main:=main) (qj (Wg:=Wg) (C:=C) (n:=n) (B:=B) (Cl:=Cl));have hiI:¬((i:Int)<(k:Int)):=ag;co_apply Exists.intro;intro w hb;co_apply callsC_of_wpC func52 aI rfl;simp only[ntmps52,fU,dJ,dY,Nat.reduceAdd,Nat.reduceSub,dR,dQ,dM,dP,dA,bT];have hF:CF Wg C n B Cl w w:=⟨hb,.refl w⟩;co_apply bY qj;co_reg qj;co_op CF.rely hF (co_quiet qj);co_apply bV qj;co_then;co_apply bY qj;co_apply bY qj;co_reg qj;co_op CF.rely hF (co_quiet qj);co_op CF.rely hF (co_quiet qj);co_op CF.rely hF (co_quiet qj);co_apply bV qj;co_then;co_apply wpC_cond qj (t:=false)
  focus(simp[Act.eval])
  simp only[dC,bQ];co_apply wpC_skip qj;co_then;co_apply bY qj;co_reg qj;co_op CF.rely hF (co_quiet qj)
  co_opw CF.rely hF (skip) (rw[listed_nil kZ];exact zC hF.bs.hC _ rfl)
  replace hF:=hF.alloc k;rw[<-agj k i]at hF;generalize hN:Array.size (World.heap _)=N at hF⊢;clear hN;have hNC:N≠C:=ax4;co_op CG.rely hF (co_quiet qj);co_apply bV qj;co_then;co_apply bY qj;co_apply bY qj;co_reg qj;co_op CG.rely hF (co_quiet qj);co_op CG.rely hF (co_quiet qj);co_op CG.rely hF (co_quiet qj);co_apply bV qj;co_then;co_apply lu qj;co_apply kJ qj (RoI Wg C n B Cl w k i N) (muR k) _ k
  .exact⟨0,_,_,_,_,_,_,_,_,_,_,_,_,_,_,_,_,_,_,_,_,_,_,_,_,_,gY _,hF,rfl⟩
  .simp[muR]
  rintro a w' ⟨j,v2,v3,v4,v6,v7,v8,v9,v10,v11,v12,Wx,XR,Qa,Qk,Ql,v20,v21,v22,Ux,v24,Qm,v26,v27,v28,v29,hj,hF,rfl⟩;co_apply bY qj;co_reg qj;co_op CG.rely hF (co_quiet qj);co_apply bV qj;co_then;co_apply bY qj
  co_split qj (decide ((j:Int)<(k:Int)))
  .intro Oq;have aiu:j<k:=awV;have hjI:(j:Int)<(k:Int):=ag;clear Oq;have auH:i^^^j<128:=Qz hi ag;have hxr:bits .xor .i64 ((i:Nat):Int) ((j:Nat):Int)=((i^^^j:Nat):Int):=RP _ _ ag ag;have hcv:IntKind.u8.wrap (((i^^^j:Nat):Int))=((i^^^j:Nat):Int):=by rw[av2];omega
   have hrv:uB k i j=inv (i^^^j):=by unfold uB;rw[au WT,cu ag]
   co_ctl qj
   co_then
   co_ctl qj
   co_ctl qj
   co_ctl qj
   co_reg qj;co_op CG.rely hF (co_quiet qj);co_op CG.rely hF (co_quiet qj);co_apply bV qj;co_then;co_reg qj;co_op CG.rely hF (co_quiet qj);co_op CG.rely hF (co_quiet qj);co_op CG.rely hF (co_quiet qj);co_op CG.rely hF (co_quiet qj);co_op CG.rely hF (co_quiet qj);have hce:∀(w:ah)(es:aH),(convert 3 5 (.int .i64 ((i^^^j:Nat):Int))).events prog w es=es:=λw es=>by simp[convert,Conv.intToInt,go_sem,Tryz.runUnderlying3,Tryz.runUnderlying5]
   co_opw CG.rely hF (skip) (co_still qj)
   clear hce;co_apply opsC_call qj rfl aI rfl
   .walk_nrm;exact hv _ _ (show i^^^j<256 by omega)
   rintro v w' ⟨rfl,hs⟩;replace hF:CG Wg C n B Cl w N (Qy k i j) w':=hs.elim (λe=>e▸hF) (λr=>hF.rely r);clear hs;walk_nrm
   co_opw CG.rely hF (skip) (co_still qj)
   have Md:∀{w:ah}(h:w.heap[N]?=some (.cells (uh (Qy k i j)) 5)),w.cell? ⟨N,j,none⟩=some (.int .u8 0)/\w.frozen? ⟨N,j,none⟩=false:=λh=>⟨by rw[cell_of _ h,yK];simp[Qy,aiu],wK _ h j⟩
   co_opw CG.rely hF (have hc:=(Md hF.hx).1;have hz:=(Md hF.hx).2) (refine Qw hF.mn hNC (hF.bs.lt hF.mn) ?_;co_evs (exact⟨_,_,rfl,rfl⟩))
   replace hF:=hF.set hb j (inv (i^^^j));rw[show(Qy k i j).set j (inv (i^^^j))=Qy k i (j+1)from by rw[<-hrv,air k i j aiu]]at hF;clear hc hz;co_apply bV qj;co_then;co_reg qj;co_op CG.rely hF (co_quiet qj);co_op CG.rely hF (co_quiet qj);co_apply bV qj;co_then;have BB:IntKind.i64.wrap ((j:Int)+1)=((j+1:Nat):Int):=iw;simp only[BB];refine⟨⟨j+1,_,_,_,_,_,_,_,_,_,_,_,_,_,_,_,_,_,_,_,_,_,_,_,_,_,ag,hF,rfl⟩,?_⟩;simp[muR,intOf];omega
  .intro Oq;obtain rfl:j=k:=awW;clear Oq;rw[ais]at hF
   co_go qj CG.rely hF (co_quiet qj)
   exact ayr
