import Derived.Test.YtnbflnamlpodcaaGreatDoorEnM
import Derived.Test.YtnbflnamlpodcaaGreatDoorCoW
set_option maxHeartbeats 4000000
set_option maxRecDepth 100000
namespace Go.Proofs.Y
open Go.Proofs.Tryz
open Go.RowKit Go.Deep Go.Hp
structure YF(w:World)(bo:Option Addr)(m cap:Nat)(f:Nat->qY)(d:qY->List UInt8):Prop where
 hm:m<=1048576
 BD:m<=cap
 hbo:bo=none->cap=0
 hk:∀i,i<m->(f i).k.length<=9223372036854775807
 hl:∀i,i<m->(f i).l<=9223372036854775807
 bc:BC w bo m f
 dat:∀i,i<m->yR w (f i) (d (f i))
end Go.Proofs.Y
namespace Go.Proofs.Y
open Go.Proofs.Tryz
open Go.RowKit Go.Deep
theorem YG{w:World}{N:Nat}{c:Array Value}{t:TypeId}(c':Array Value)(h:w.heap[N]?=some (.cells c t)):(w.setRow N c').heap[N]?=some (.cells c' t):=by simp[World.setRow,gK,h]
theorem V6(w:World){N b:Nat}(c':Array Value)(h:b≠N):(w.setRow N c').heap[b]?=w.heap[b]?:=by simp[World.setRow,gK,di h]
theorem YH(w:World)(N:Nat)(c':Array Value):(w.setRow N c').heap.size=w.heap.size:=by simp[World.setRow]
structure anB(w:World)(k L P F:Nat)(l:List UInt8)(w':World):Prop where
 list:w'.rowIs P 34 k (λj=>.slice (some ⟨F,j*L,none⟩) L (k*L-j*L))
 row:w'.rowIs F 5 (k*L) (λj=>.int .u8 ((tJ l j:Nat):Int))
 lo:w.heap.size<=P/\w.heap.size<=F
 AZ:Below w.heap.size w w'
theorem aaq(w:World)(F n:Nat)(vd:Value)(l:List UInt8)(hv:qR w vd (r_ l))(hn:l.length<=n)(hF:w.rowIs F 5 n (λ_=>.int .u8 0)):
  ∃w',(Builtin.copy_ #[34,34] 3 #[.slice (some ⟨F,0,none⟩) n n,vd]).run prog w=.ok (goInt l.length) w'/\w'.rowIs F 5 n (λj=>.int .u8 ((tJ l j:Nat):Int))/\(∀b,b≠F->w'.heap[b]?=w.heap[b]?)/\w'.heap.size=w.heap.size/\w'.os=w.os/\w'.tape=w.tape/\w'.output=w.output:=by
 obtain⟨cur,hc1,VD,hc3⟩:=hF;obtain⟨i0,hi,_,w_,_⟩:=bG Tryz.aeE;have hsz:(prog.info? 5).map (·.size)=some 1:=by rw[hi];simp[w_]
 obtain⟨ba,cap,rfl,hle,hcell⟩:=hv;rcases dK l.length with h0|h0
 .obtain rfl:l=[]:=kR h0;refine⟨w,?_,⟨cur,hc1,VD,λi hi=>by rw[hc3 i hi];rfl⟩,λ_ _=>rfl,rfl,rfl,rfl,rfl⟩;cases ba<;>simp[r_,Builtin.copy_,run_underlying underlying34,Builtin.lenOf,Builtin.firstCells,sizeOf,typeInfo,hi,loadCells,loadCellsFrom,storeCells]
 .obtain⟨b,off,rfl,_⟩:=hcell 0 ((r_ l)[0]'(by simpa[r_]using h0)) ai
  have akC:∀j v,(r_ l)[j]?=some v->w.cell? ((⟨b,off,none⟩:Addr).add j)=some v:=λj v hj=>by obtain⟨b',ahd,e,h⟩:=hcell j v hj;cases e;rw[show(⟨b,off,none⟩:Addr).add j=⟨b,off+j,none⟩from by unfold Addr.add;by_cases h:j=0<;>simp[h]];exact h
  have hl:(r_ l).length=l.length:=dL;have sJ:=run_copy_row prog w 34 34 3 5 F 0 n n ⟨b,off,none⟩ (r_ l).length cap cur 5 (r_ l) underlying34 hsz hc1 (by rw[hl];exact(nJ hn).symm) akC (by rw[hl,VD];omega) (EK l);rw[hl]at sJ;refine⟨_,by rw[hl];exact sJ,⟨_,YG _ hc1,?_,λi hi=>?_⟩,λb hb=>V6 w _ hb,YH _ _ _,rfl,rfl,rfl⟩
  .simp[VD,hl];omega
  .simp only[kG,bg,aT];rw[nU];by_cases h:i<l.length
   .rw[fF (by rw[hl];exact h),wR h]
   .rw[iW m_,auc,hl,show l.length+(i-l.length)=i by omega,aup,hc3 i hi];simp[tJ,gG (show l.length<=i by omega)]
theorem alg(k:Nat)(hk0:1<=k)(hk:k<=128)(vd:Value)(l:List UInt8)(hl:l.length<=65536)(w:World)(hv:qR w vd (r_ l)):
  Calls prog 47 #[.int .i64 ((k:Nat):Int),vd] w λe w'=>∃P F,e=.returned (.slice (some ⟨P,0,none⟩) k k)/\anB w k (tX k l.length) P F l w':=by
 have c1:=EL (k:Int) (l.length:Int) k l.length rfl rfl hk0 ae hl;have hL1:tX k l.length*k<l.length+k:=by unfold tX;have:=Nat.div_mul_le_self (l.length+k-1) k;omega
 have hL2:l.length<=k*tX k l.length:=by unfold tX;have:=Nat.lt_div_mul_add (a:=l.length+k-1) (b:=k) ae;rw[eX];omega
 have hLb:tX k l.length<=65536:=by unfold tX;exact Nat.div_le_of_le_mul (by have:=jK hk0 (ak 65536);omega)
 generalize hL:tX k l.length=L at*;have hkL:k*L<=65536+128:=by rw[eX];omega
 have hlv:∃ba cap,vd=.slice ba l.length cap:=by obtain⟨ba,cap,rfl,_⟩:=hv;exact⟨ba,cap,dL⟩
 have hm1:∀w:World,(Instr.makeSlice 34 (.int .i64 ((k*L:Nat):Int)) (.int .i64 ((k*L:Nat):Int))).run prog w=.ok (.slice (some ⟨w.heap.size,0,none⟩) (k*L) (k*L)) (w.alloc (.cells (madeCells #[.int .u8 0] (k*L)) 5)):=
  λw=>run_make_row' (P:=prog) 34 5 (.int .u8 0) 1 underlying34 Tryz.aeE rfl .i64 .i64 (k*L) ae ae w
 have hmul:((k:Nat):Int)*((L:Nat):Int)=((k*L:Nat):Int):=ai;have z1:=World.rowIs_made w (.int .u8 0) (k*L) 5;have b1:Below w.heap.size w (w.alloc (.cells (madeCells #[.int .u8 0] (k*L)) 5)):=(aA _ _).alloc (ak _) _;have s1:(w.alloc (.cells (madeCells #[.int .u8 0] (k*L)) 5)).heap.size=w.heap.size+1:=ai;obtain⟨w2,hcp,r2,o2,s2,h2a,h2b,h2c⟩:=aaq _ w.heap.size (k*L) vd l (hv.below b1) hL2 z1;have b2:Below w.heap.size w w2:=⟨h2a,h2b,h2c,ae,λb hb=>avL⟩;have anC:=hm1 w;have m2:=Eg k hk w2;have z2:=World.rowIs_made w2 (.slice none 0 0) k 34;have b3:Below w.heap.size w (w2.alloc (.cells (madeCells #[.slice none 0 0] k) 34)):=b2.alloc ae _;have r3:=r2.alloc (.cells (madeCells #[.slice none 0 0] k) 34);have zD:w2.heap.size=w.heap.size+1:=ae;rw[zD]at m2 z2;generalize madeCells #[.int .u8 0] (k*L)=Z1 at*;generalize madeCells #[.slice none 0 0] k=Z2 at*;obtain⟨ba,cap,rfl⟩:=hlv;generalize Fg:l.length=n at*;have hLk:L*k=k*L:=eX _ _;clear hm1 s1 o2 s2 h2a h2b h2c z1 b1 hv hmul;have hmul:((k:Nat):Int)*((L:Nat):Int)=((k*L:Nat):Int):=ai;generalize hKL:k*L=kL at*;go_enter func47,ntmps47
 go_wp2_with(first|(go_at_call 77;(with_reducible refine(c1 _).mono ?_);rintro e w' ⟨rfl,tH⟩;obtain rfl:=tH.symm))
 clear hcp anC m2 c1;have hne:w.heap.size+1≠w.heap.size:=ae;generalize w2.alloc (Obj.cells Z2 34)=w3 at*;clear r2 b2
 go_loopw [8,24] (λ_ vi wr=>∃j:Nat,j<=k/\vi=.int .i64 ((j:Nat):Int)/\wr.rowIs (w.heap.size+1) 34 k (λi=>if i<j then .slice (some ⟨w.heap.size,i*L,none⟩) L (kL-i*L)else .slice none 0 0)/\wr.rowIs w.heap.size 5 kL (λj=>.int .u8 ((tJ l j:Nat):Int))/\Below w.heap.size w wr) (λ_ i _=>k-(intOf i).toNat)
 case atStart=>exact⟨0,ae,rfl,z2.congr λi _=>fV,r3,b3⟩
 case round=>
  obtain⟨j,hj,rfl,hR,hr,hb⟩:=hrel;by_cases qE:j<k
  .have Ag:(j:Int)<(k:Int):=ae;have hjL:j*L+L<=kL:=by rw[<-hKL,<-fD];exact ji L qE
   have hm1:((j:Nat):Int)*((L:Nat):Int)=((j*L:Nat):Int):=ai;have hm2:(((j:Nat):Int)+1)*((L:Nat):Int)=((j*L+L:Nat):Int):=by rw[Int.add_mul];simp
   have g0:=hR.cell qE;rw[ah ae]at g0;have g1:=hR.frozen j
   have Fh:=(hR.set j (.slice (some ⟨w.heap.size,j*L,none⟩) L (kL-j*L))).congr (g:=λi=>if i<j+1 then .slice (some ⟨w.heap.size,i*L,none⟩) L (kL-i*L)else .slice none 0 0) (λi _=>by
    by_cases e:i=j
    .subst e;rw[aj rfl,aj ae]
    .rw[ah e];by_cases e2:i<j
     .rw[aj e2,aj ae]
     .rw[ah e2,ah ae])
   have Gy:=hr.setOther (a:=⟨w.heap.size+1,j,none⟩) auH (.slice (some ⟨w.heap.size,j*L,none⟩) L (kL-j*L));have sZ:=hb.setCell (p:=⟨w.heap.size+1,j,none⟩) auI (.slice (some ⟨w.heap.size,j*L,none⟩) L (kL-j*L));clear hR hr hb z2 r3 b3
   have hif:kL=j*L->j*L=0:=λe=>by have:L=0:=ae;rw[this,Nat.mul_zero]
   generalize Nz:j*L=jL at*
   have atl:(if kL=jL then some (⟨w.heap.size,0,none⟩:Addr)else some ⟨w.heap.size,jL,none⟩)=some ⟨w.heap.size,jL,none⟩:=by
    by_cases e:kL=jL
    .rw[aj e,hif e]
    .rw[ah e]
   clear hif;have d1:(jL:Int)<=((jL+L:Nat):Int):=ae;have d2:((jL+L:Nat):Int)<=(kL:Int):=ae;have d3:jL+L-jL=L:=ae;go_wp2
   go_roundw
   case rel=>exact⟨j+1,ae,aW,Fh,Gy,sZ⟩
   case measure=>simp[intOf];omega
  .obtain rfl:j=k:=ae;have GH:¬((j:Int)<(j:Int)):=ae;go_wp2;go_ret;rw[<-hKL]at hr;exact⟨w.heap.size+1,rfl,w.heap.size,hR.congr λi hi=>by rw[aj hi,hKL],hr,⟨ae,ak _⟩,hb⟩
end Go.Proofs.Y
namespace Go.Proofs.Y
open Go.Proofs.Tryz
open Go.Conc Go.RowKit Go.Gh
open Go.ConcR (Payload)
section
variable {main:Bool}{R:World->World->Prop}{D:World->World->Array Event->Prop}
def MI(R:World->World->Prop)(w0:World)(m:Nat)(a:Act)(w:World):Prop:=∃(k p x y:Nat)(v2 v3 v4 v7 v8 v9 v10 v11 v12 VE Xb SL SN SQ Pn Po:Value),k<=8/\p<256/\x<256/\y<256/\Hid (EI (8-k) p x y=m)/\Since R w0 w/\a=⟨#[.int .u8 ((x:Nat):Int),.int .u8 ((y:Nat):Int),v2,v3,v4,.int .u8 ((p:Nat):Int),.int .i64 ((k:Nat):Int),v7,v8,v9,v10,v11,v12,VE,Xb,SL,SN,SQ,Pn,Po],[]⟩
def muM(a:Act)(_:World):Nat:=8-(intOf (a.tmps.getD 6 undef)).toNat
theorem apR(T:Terms R D):∃n,∀(a b:Nat)(w:World),a<256->b<256->CallsC prog main R D 119 #[.int .u8 (a:Int),.int .u8 (b:Int)] n w λv w'=>v=.int .u8 (mul a b:Nat)/\Since R w w':=by
 obtain⟨kx,hx⟩:=aao (main:=main) T;co_apply Exists.intro;intro a b w ha hb;co_apply callsC_of_wpC func119 ax rfl;have hF:Since R w w:=.refl w;simp only[ntmps119,dY,bQ,dB,Nat.reduceAdd,Nat.reduceSub,cu,b_,bU,bY,bg,aV]
 co_go T (Since.rely T) hF (co_quiet T)
 co_apply jG T (MI R w (mul a b)) muM _ 8
 .exact⟨0,0,a,b,_,_,_,_,_,_,_,_,_,_,_,_,_,_,_,_,ae,ae,ha,hb,rfl,hF,rfl⟩
 .simp[muM]
 .rintro act w' ⟨k,p,x,y,v2,v3,v4,v7,v8,v9,v10,v11,v12,VE,Xb,SL,SN,SQ,Pn,Po,hk,hp,hx',hy,H,hF,rfl⟩
  co_go T (Since.rely T) hF (co_quiet T)
  co_split T (decide (((k:Nat):Int)<8))
  .intro qE;have Ag:k<8:=au7;clear qE;have hand:=aeB y hy;have G:=PK Ag H.out;clear H
   co_ctl T
   co_then
   co_ctl T
   co_ctl T
   co_apply wpC_seq_mid T (λa' w'=>∃(p':Nat)(v8 v9 v10 v11 v12 VE:Value),p'<256/\p'=(if y%2=1 then p^^^x else p)/\Since R w w'/\a'=⟨#[.int .u8 ((x:Nat):Int),.int .u8 ((y:Nat):Int),v2,v3,v4,.int .u8 ((p':Nat):Int),.int .i64 ((k:Nat):Int),.bool (decide (((k:Nat):Int)<8)),v8,v9,v10,v11,v12,VE,Xb,SL,SN,SQ,Pn,Po],[]⟩)
   .co_go T (Since.rely T) hF (co_quiet T)
    co_split T (((y:Nat):Int)%2==1)
    .intro h1;have h2:y%2=1:=oM;clear h1
     co_go T (Since.rely T) hF (co_quiet T)
     rw[aan hp hx'];exact⟨p^^^x,_,_,_,_,_,_,CY hp hx',by rw[aj h2],hF,rfl⟩
    .intro h1;have h2:¬y%2=1:=oM;clear h1
     co_go T (Since.rely T) hF (co_quiet T)
     exact⟨p,_,_,_,_,_,_,hp,by rw[ah h2],hF,rfl⟩
   .clear hF;rintro a' w' ⟨p',v8,v9,v10,v11,v12,VE,hp',DW,hF,rfl⟩;rw[<-DW]at G;clear DW
    co_go T (Since.rely T) hF (co_quiet T)
    co_apply opsC_call T rfl ax rfl
    .walk_nrm;exact hx _ _ hx'
    rintro v w' ⟨rfl,hs⟩;replace hF:Since R w w':=hs.elim (λe=>e▸hF) (λr=>Since.rely T hF r);clear hs;walk_nrm
    co_go T (Since.rely T) hF (co_quiet T)
    have e1:((y:Nat):Int)/2=((y/2:Nat):Int):=ae;have e2:IntKind.i64.wrap (((k:Nat):Int)+1)=((k+1:Nat):Int):=gV;simp only[e1,e2];refine⟨⟨k+1,p',tx x,y/2,_,_,_,_,_,_,_,_,_,_,_,_,_,_,_,_,ae,hp',Lp hx',ae,G,hF,rfl⟩,?_⟩;simp[muM,intOf];omega
  .intro qE;obtain rfl:k=8:=awf;clear qE
   co_go T (Since.rely T) hF (co_quiet T)
   refine⟨rfl,_,resultsC_tmp ax _,?_,hF⟩;have G:p=mul a b:=H.out;simp[G]
def II(R:World->World->Prop)(w0:World)(m:Nat)(a:Act)(w:World):Prop:=∃(k p x:Nat)(v0 v1 v2 v5 v7 v8 v9 v10 v11 v12 VE Xb SL:Value),k<=7/\p<256/\x<256/\Hid (acO (7-k) p x=m)/\Since R w0 w/\a=⟨#[v0,v1,v2,.int .u8 ((p:Nat):Int),.int .u8 ((x:Nat):Int),v5,.int .i64 ((k:Nat):Int),v7,v8,v9,v10,v11,v12,VE,Xb,SL],[]⟩
def anD(a:Act)(_:World):Nat:=7-(intOf (a.tmps.getD 6 undef)).toNat
theorem apS(T:Terms R D):∃n,∀(a:Nat)(w:World),a<256->CallsC prog main R D 93 #[.int .u8 (a:Int)] n w λv w'=>v=.int .u8 (inv a:Nat)/\Since R w w':=by
 obtain⟨kx,hx⟩:=apR (main:=main) T;co_apply Exists.intro;intro a w ha;co_apply callsC_of_wpC func93 ax rfl;have hF:Since R w w:=.refl w;simp only[ntmps93,dY,bQ,dB,Nat.reduceAdd,Nat.reduceSub,cu,b_,bU,bY,bg,aV]
 co_go T (Since.rely T) hF (co_quiet T)
 co_apply jG T (II R w (inv a)) anD _ 7
 .exact⟨0,a,1,_,_,_,_,_,_,_,_,_,_,_,_,_,ae,ha,ae,rfl,hF,rfl⟩
 .simp[anD]
 .rintro act w' ⟨k,p,x,v0,v1,v2,v5,v7,v8,v9,v10,v11,v12,VE,Xb,SL,hk,hp,hx',H,hF,rfl⟩
  co_go T (Since.rely T) hF (co_quiet T)
  co_split T (decide (((k:Nat):Int)<7))
  .intro qE;have Ag:k<7:=au7;clear qE;have hpp:mul p p<256:=mul_lt hp
   co_go T (Since.rely T) hF (co_quiet T)
   co_apply opsC_call T rfl ax rfl
   .walk_nrm;exact hx _ _ _ hp hp
   rintro v w' ⟨rfl,hs⟩;replace hF:Since R w w':=hs.elim (λe=>e▸hF) (λr=>Since.rely T hF r);clear hs;walk_nrm
   co_go T (Since.rely T) hF (co_quiet T)
   co_apply opsC_call T rfl ax rfl
   .walk_nrm;exact hx _ _ _ hx' hpp
   rintro v w' ⟨rfl,hs⟩;replace hF:Since R w w':=hs.elim (λe=>e▸hF) (λr=>Since.rely T hF r);clear hs;walk_nrm
   co_go T (Since.rely T) hF (co_quiet T)
   have e2:IntKind.i64.wrap (((k:Nat):Int)+1)=((k+1:Nat):Int):=gV;simp only[e2];refine⟨⟨k+1,mul p p,mul x (mul p p),_,_,_,_,_,_,_,_,_,_,_,_,_,ae,hpp,mul_lt hx',Xq Ag H.out,hF,rfl⟩,?_⟩;simp[anD,intOf];omega
  .intro qE;obtain rfl:k=7:=awf;clear qE
   co_go T (Since.rely T) hF (co_quiet T)
   refine⟨rfl,_,resultsC_tmp ax _,?_,hF⟩;have G:x=inv a:=H.out;simp[G]
end
def PN(k i c:Nat):List Nat:=(List.range k).map λj=>if j<c then uj k i j else 0
theorem afG(k i:Nat):PN k i 0=List.replicate k 0:=by unfold PN;apply iY;intro j;by_cases h:j<k<;>simp[h]
theorem ahF(k i c:Nat)(hc:c<k):(PN k i c).set c (uj k i c)=PN k i (c+1):=by
 unfold PN;apply iY;intro j;rw[mr];by_cases h:c=j
 .subst h;simp[hc]
 .rw[ah h];by_cases hj:j<k
  .simp only[bV,mD hj,dJ];by_cases h1:j<c
   .rw[aj h1,aj ae]
   .rw[ah h1,ah ae]
  .simp[hj]
theorem ahG(k i:Nat):PN k i k=(List.range k).map (uj k i):=by unfold PN;exact mi λj hj=>by rw[aj jb]
theorem afH(k i:Nat)(hi:i<k):(List.replicate k 0).set i 1=(List.range k).map (uj k i):=by
 apply iY;intro j;rw[mr];by_cases h:i=j
 .subst h;simp[hi,uj]
 .rw[ah h];by_cases hj:j<k
  .simp[hj,uj,hi,di h]
  .simp[hj]
section
variable [Payload][qV]{main:Bool}{Wg C n B:Nat}{Cl:Nat->Prop}
omit [qV]in
theorem CG.set{w0 w:World}(h0:Bs C B w0){N:Nat}{cur:List Nat}(h:CG Wg C n B Cl w0 N cur w)(i x:Nat):CG Wg C n B Cl w0 N (cur.set i x) (w.setCell ⟨N,i,none⟩ (.int .u8 ((x:Nat):Int))):=
 ⟨h.bs.set _ _,aap h.ex h0 h.lo _,h.lo,su (w:=w) (w':=w.setCell _ _) rfl dI h.mn,by rw[heap_set w h.hx,Ua]⟩
omit [Payload][qV]in
theorem ahH(k:Nat)(hk:k<=128):(∀w:World,(Instr.makeSlice 34 (.int .i64 (k:Int)) (.int .i64 (k:Int))).run prog w=.ok (.slice (some ⟨w.heap.size,0,none⟩) k k) (w.alloc (.cells (madeCells #[.int .u8 0] k) 5)))/\∀(w:World)(es:Array Event),(Instr.makeSlice 34 (.int .i64 (k:Int)) (.int .i64 (k:Int))).events prog w es=es:=by
 obtain⟨i0,hi,x_,w_,wH⟩:=bG Tc;refine⟨λw=>?_,λw es=>?_⟩
 .have:=jg (P:=prog) w 34 5 i0 (.int .u8 0) underlying34 hi x_ .i64 .i64 (k:Int) (k:Int) ae ae fU ae;rw[w_,show(Value.int .u8 0).cells=#[.int .u8 0]from rfl]at this;exact aww
 .exact events_make (P:=prog) w 34 5 i0 (.int .u8 0) underlying34 hi x_ .i64 .i64 (k:Int) (k:Int) ae ae fU ae auJ es
theorem afI(k i:Nat)(hk:k<=128)(hi:i<k):∃q,∀(w:World),Bs C B w->
  CallsC prog main (Ro Wg C n B Cl) (Dg Wg C n B Cl) 92 #[.int .i64 ((k:Nat):Int),.int .i64 ((i:Nat):Int)] q w λv w'=>∃N,v=.slice (some ⟨N,0,none⟩) k k/\CG Wg C n B Cl w N ((List.range k).map (uj k i)) w':=by
 obtain⟨hmk,hme⟩:=ahH k hk;have hiI:(i:Int)<(k:Int):=ae;co_apply Exists.intro;intro w hb;co_apply callsC_of_wpC func92 ax rfl;simp only[ntmps92,dY,bQ,dB,Nat.reduceAdd,Nat.reduceSub,cu,b_,bU,bY,bg,aV];have hF:CF Wg C n B Cl w w:=⟨hb,.refl w⟩;co_apply aY p_;co_reg p_;co_op CF.rely hF (co_quiet p_);co_apply aX p_;co_then;co_apply aY p_;co_reg p_;co_op CF.rely hF (co_quiet p_)
 co_opw CF.rely hF (skip) (rw[listed_nil jT];exact y_ hF.bs.hC _ rfl)
 replace hF:=hF.alloc k;generalize hN:Array.size (World.heap _)=N at hF⊢;clear hN;co_op CG.rely hF (co_quiet p_);co_apply aX p_;co_then;co_apply aY p_;co_reg p_;co_op CG.rely hF (co_quiet p_);co_op CG.rely hF (co_quiet p_)
 co_opw CG.rely hF (skip) (co_still p_)
 have hNC:N≠C:=awh;have hu:∀{w:World}(h:w.heap[N]?=some (.cells (tV (List.replicate k 0)) 5)),w.cell? ⟨N,i,none⟩=some (.int .u8 0)/\w.frozen? ⟨N,i,none⟩=false:=λh=>⟨by rw[cell_of _ h,yt];simp[hi],vY _ h i⟩
 co_opw CG.rely hF (have hc:=(hu hF.hx).1;have hz:=(hu hF.hx).2) (refine PH hF.mn hNC (hF.bs.lt hF.mn) ?_;co_evs (exact⟨_,_,rfl,rfl⟩))
 replace hF:=hF.set hb i 1;rw[afH k i hi]at hF;clear hc hz;co_apply aX p_;co_then;co_apply aY p_;co_reg p_;co_op CG.rely hF (co_quiet p_);co_op CG.rely hF (co_quiet p_);co_apply aX p_;co_then;co_apply wpC_ret p_;exact awH
def RoI(Wg C n B:Nat)(Cl:Nat->Prop)(w0:World)(k i N:Nat)(a:Act)(w:World):Prop:=
 ∃(j:Nat)(v2 v3 v4 v6 v7 v8 v9 v10 v11 v12 VE Xb SL Pn Po v20 v21 v22 Tv v24 Tz v26 ZU v28 v29:Value),j<=k/\CG Wg C n B Cl w0 N (PN k i j) w/\a=⟨#[.int .i64 ((k:Nat):Int),.int .i64 ((i:Nat):Int),v2,v3,v4,.slice (some ⟨N,0,none⟩) k k,v6,v7,v8,v9,v10,v11,v12,VE,Xb,SL,.int .i64 ((k:Nat):Int),.int .i64 ((j:Nat):Int),Pn,Po,v20,v21,v22,Tv,v24,Tz,v26,ZU,v28,v29],[]⟩
def muR(k:Nat)(a:Act)(_:World):Nat:=k-(intOf (a.tmps.getD 17 undef)).toNat
theorem apT(k i:Nat)(hk:k<=128)(hi:i<128):∃q,∀(w:World),Bs C B w->
  CallsC prog main (Ro Wg C n B Cl) (Dg Wg C n B Cl) 52 #[.int .i64 ((k:Nat):Int),.int .i64 ((i:Nat):Int)] q w λv w'=>∃N,v=.slice (some ⟨N,0,none⟩) k k/\CG Wg C n B Cl w N ((List.range k).map (uj k i)) w':=by
 obtain⟨hmk,hme⟩:=ahH k hk;by_cases VW:i<k
 .obtain⟨qu,hu⟩:=afI (main:=main) (Wg:=Wg) (C:=C) (n:=n) (B:=B) (Cl:=Cl) k i hk VW;have hiI:(i:Int)<(k:Int):=ae;co_apply Exists.intro;intro w hb;co_apply callsC_of_wpC func52 ax rfl;simp only[ntmps52,dY,bQ,dB,Nat.reduceAdd,Nat.reduceSub,cu,b_,bU,bY,bg,aV];have hF:CF Wg C n B Cl w w:=⟨hb,.refl w⟩;co_apply aY p_;co_reg p_;co_op CF.rely hF (co_quiet p_);co_apply aX p_;co_then;co_apply aY p_ (n₂:=0);co_apply aY p_;co_reg p_;co_op CF.rely hF (co_quiet p_);co_op CF.rely hF (co_quiet p_);co_op CF.rely hF (co_quiet p_);co_apply aX p_;co_then;co_apply wpC_cond p_ (t:=true)
  focus(simp[Act.eval])
  simp only[aF]
  co_go p_ CF.rely hF (co_quiet p_)
  co_apply opsC_call p_ rfl ax rfl
  .walk_nrm;exact hu _ hF.bs
  rintro v w' ⟨N,rfl,hg⟩;replace hF:CG Wg C n B Cl w N ((List.range k).map (uj k i)) w':=⟨hg.bs,hF.ex.trans hg.ex,aJ hF.ex.size hg.lo,hg.mn,hg.hx⟩;clear hg;walk_nrm
  co_go p_ CG.rely hF (co_quiet p_)
  exact awH
 .obtain⟨qi,hv⟩:=apS (main:=main) (p_ (Wg:=Wg) (C:=C) (n:=n) (B:=B) (Cl:=Cl));have hiI:¬((i:Int)<(k:Int)):=ae;co_apply Exists.intro;intro w hb;co_apply callsC_of_wpC func52 ax rfl;simp only[ntmps52,dY,bQ,dB,Nat.reduceAdd,Nat.reduceSub,cu,b_,bU,bY,bg,aV];have hF:CF Wg C n B Cl w w:=⟨hb,.refl w⟩;co_apply aY p_;co_reg p_;co_op CF.rely hF (co_quiet p_);co_apply aX p_;co_then;co_apply aY p_;co_apply aY p_;co_reg p_;co_op CF.rely hF (co_quiet p_);co_op CF.rely hF (co_quiet p_);co_op CF.rely hF (co_quiet p_);co_apply aX p_;co_then;co_apply wpC_cond p_ (t:=false)
  focus(simp[Act.eval])
  simp only[bu,aU];co_apply wpC_skip p_;co_then;co_apply aY p_;co_reg p_;co_op CF.rely hF (co_quiet p_)
  co_opw CF.rely hF (skip) (rw[listed_nil jT];exact y_ hF.bs.hC _ rfl)
  replace hF:=hF.alloc k;rw[<-afG k i]at hF;generalize hN:Array.size (World.heap _)=N at hF⊢;clear hN;have hNC:N≠C:=awh;co_op CG.rely hF (co_quiet p_);co_apply aX p_;co_then;co_apply aY p_;co_apply aY p_;co_reg p_;co_op CG.rely hF (co_quiet p_);co_op CG.rely hF (co_quiet p_);co_op CG.rely hF (co_quiet p_);co_apply aX p_;co_then;co_apply jX p_;co_apply jG p_ (RoI Wg C n B Cl w k i N) (muR k) _ k
  .exact⟨0,_,_,_,_,_,_,_,_,_,_,_,_,_,_,_,_,_,_,_,_,_,_,_,_,_,fC _,hF,rfl⟩
  .simp[muR]
  rintro a w' ⟨j,v2,v3,v4,v6,v7,v8,v9,v10,v11,v12,VE,Xb,SL,Pn,Po,v20,v21,v22,Tv,v24,Tz,v26,ZU,v28,v29,hj,hF,rfl⟩;co_apply aY p_;co_reg p_;co_op CG.rely hF (co_quiet p_);co_apply aX p_;co_then;co_apply aY p_
  co_split p_ (decide ((j:Int)<(k:Int)))
  .intro Nz;have ahE:j<k:=au8;have hjI:(j:Int)<(k:Int):=ae;clear Nz;have ati:i^^^j<128:=PQ hi ae;have hxr:bits .xor .i64 ((i:Nat):Int) ((j:Nat):Int)=((i^^^j:Nat):Int):=QI _ _ ae ae;have hcv:IntKind.u8.wrap (((i^^^j:Nat):Int))=((i^^^j:Nat):Int):=by rw[auh];omega
   have hrv:uj k i j=inv (i^^^j):=by unfold uj;rw[ah VW,aZ ae]
   co_ctl p_
   co_then
   co_ctl p_
   co_ctl p_
   co_ctl p_
   co_reg p_;co_op CG.rely hF (co_quiet p_);co_op CG.rely hF (co_quiet p_);co_apply aX p_;co_then;co_reg p_;co_op CG.rely hF (co_quiet p_);co_op CG.rely hF (co_quiet p_);co_op CG.rely hF (co_quiet p_);co_op CG.rely hF (co_quiet p_);co_op CG.rely hF (co_quiet p_);have hce:∀(w:World)(es:Array Event),(convert 3 5 (.int .i64 ((i^^^j:Nat):Int))).events prog w es=es:=λw es=>by simp[convert,Conv.intToInt,go_sem,Tryz.runUnderlying3,Tryz.runUnderlying5]
   co_opw CG.rely hF (skip) (co_still p_)
   clear hce;co_apply opsC_call p_ rfl ax rfl
   .walk_nrm;exact hv _ _ (show i^^^j<256 by omega)
   rintro v w' ⟨rfl,hs⟩;replace hF:CG Wg C n B Cl w N (PN k i j) w':=hs.elim (λe=>e▸hF) (λr=>hF.rely r);clear hs;walk_nrm
   co_opw CG.rely hF (skip) (co_still p_)
   have KP:∀{w:World}(h:w.heap[N]?=some (.cells (tV (PN k i j)) 5)),w.cell? ⟨N,j,none⟩=some (.int .u8 0)/\w.frozen? ⟨N,j,none⟩=false:=λh=>⟨by rw[cell_of _ h,yt];simp[PN,ahE],vY _ h j⟩
   co_opw CG.rely hF (have hc:=(KP hF.hx).1;have hz:=(KP hF.hx).2) (refine PH hF.mn hNC (hF.bs.lt hF.mn) ?_;co_evs (exact⟨_,_,rfl,rfl⟩))
   replace hF:=hF.set hb j (inv (i^^^j));rw[show(PN k i j).set j (inv (i^^^j))=PN k i (j+1)from by rw[<-hrv,ahF k i j ahE]]at hF;clear hc hz;co_apply aX p_;co_then;co_reg p_;co_op CG.rely hF (co_quiet p_);co_op CG.rely hF (co_quiet p_);co_apply aX p_;co_then;have BB:IntKind.i64.wrap ((j:Int)+1)=((j+1:Nat):Int):=gV;simp only[BB];refine⟨⟨j+1,_,_,_,_,_,_,_,_,_,_,_,_,_,_,_,_,_,_,_,_,_,_,_,_,_,ae,hF,rfl⟩,?_⟩;simp[muR,intOf];omega
  .intro Nz;obtain rfl:j=k:=au9;clear Nz;rw[ahG]at hF
   co_go p_ CG.rely hF (co_quiet p_)
   exact awH
end
end Go.Proofs.Y
namespace Go.Proofs.Y
open Go.Proofs.Tryz
open Go.Conc Go.ConcN Go.RowKit Go.Gh Go.Conc.Lib Go.ConcR.Gen Go.ConcN.Gen
open Go.ConcR (Payload)
structure YI where
 ba:Nat
 bj:Nat
 bk:Nat
 bd:Nat
 bD:Nat
 oD:Nat
 cD:Nat
theorem Xr{P:Program}{main:Bool}{R:World->World->Prop}{D:World->World->Array Event->Prop}{f:FuncId}{args:Array Value}{n m:Nat}{w:World}{Post:Value->World->Prop}(h:CallsC P main R D f args n w Post)(hn:n<=m):CallsC P main R D f args m w Post:=
 let⟨fn,c,h1,h2,h3,h4⟩:=h
 ⟨fn,c,h1,h2,h3,wpC_more h4 hn⟩
section
variable [Payload][qV]{main:Bool}{Wg C n B:Nat}{Cl:Nat->Prop}
structure WIc(Wg C n B:Nat)(c:YI)(k L idx:Nat)(cs:List Ub)(w:World):Prop where
 bs:Bs C B w
 pay:PayAt C n w
 ra:RY Wg C B w c.ba
 va:w.cell? ⟨c.ba,0,none⟩=some (.slice (some ⟨C,0,none⟩) n n)
 rj:RY Wg C B w c.bj
 vj:w.cell? ⟨c.bj,0,none⟩=some (.int .i64 ((idx:Nat):Int))
 rk:RY Wg C B w c.bk
 vk:w.cell? ⟨c.bk,0,none⟩=some (.int .i64 ((k:Nat):Int))
 rd:RY Wg C B w c.bd
 vd:w.cell? ⟨c.bd,0,none⟩=some (.slice (some ⟨c.bD,c.oD,none⟩) k c.cD)
 rc:RY Wg C B w c.bD
 hc:∀j d,cs[j]?=some d->w.cell? ⟨c.bD,c.oD+j,none⟩=some (.slice d.bs L d.co)
 xP:∀d∈cs,RY Wg C B w d.bo/\(0<L->d.bs=some ⟨d.bo,d.oo,none⟩)/\∀i y,d.ys[i]?=some y->w.cell? ⟨d.bo,d.oo+i,none⟩=some (.int .u8 ((y:Nat):Int))
theorem WIc.ex{w w₁:World}{c:YI}{k L idx:Nat}{cs:List Ub}(h:WIc Wg C n B c k L idx cs w)(hb:Bs C B w₁)(r:Ex Wg C n B Cl (λ_=>False) w w₁):WIc Wg C n B c k L idx cs w₁:=by
 have st:∀{b:Nat},RY Wg C B w b->∀o,w₁.cell? ⟨b,o,none⟩=w.cell? ⟨b,o,none⟩:=λhb o=>auy
 exact⟨hb,r.pay h.pay,r.rdb h.ra,(st h.ra _).trans h.va,r.rdb h.rj,(st h.rj _).trans h.vj,r.rdb h.rk,(st h.rk _).trans h.vk,r.rdb h.rd,(st h.rd _).trans h.vd,r.rdb h.rc,λj d e=>(st h.rc _).trans (h.hc j d e),λd hd=>let⟨h1,h2,h3⟩:=h.xP d hd;⟨r.rdb h1,h2,λi y e=>(st h1 _).trans (h3 i y e)⟩⟩
theorem WIc.rely{w w₁:World}{c:YI}{k L idx:Nat}{cs:List Ub}(h:WIc Wg C n B c k L idx cs w)(r:Ro Wg C n B Cl w w₁):WIc Wg C n B c k L idx cs w₁:=h.ex (h.bs.rely r) r.ex
theorem WIc.cin{w:World}{c:YI}{k L idx N:Nat}{ws:List Nat}{cs:List Ub}(h:WIc Wg C n B c k L idx cs w)(hm:qO w N)(hx:w.heap[N]?=some (.cells (tV ws) 5)):CIn Wg C B N 0 c.bD c.oD L ws cs w:=
 ⟨.inl hm,h.bs.lt hm,h.rc,h.bs.zI h.rc,λj x e=>by rw[aT,cell_of _ hx,yt,e];rfl,h.hc,λd hd=>let⟨h1,h2,h3⟩:=h.xP d hd;⟨h1,h.bs.zI h1,h2,h3⟩⟩
def w0C:Frame:=baseD 49
noncomputable def NV:Frame:={(default:Frame)with fn:=prog.funcs.size,defers:=[],mode:=.panicking [goexitEntry]}
noncomputable def acS:Code:=Tryz.f49.body.getD .skip
def JY(Wg:Nat)(c:YI):Array Value:=#[.pointer (some ⟨Wg,0,none⟩),.pointer (some ⟨c.bk,0,none⟩),.pointer (some ⟨c.bj,0,none⟩),.pointer (some ⟨c.bd,0,none⟩),.pointer (some ⟨c.ba,0,none⟩)]
def Uc(Wg:Nat)(c:YI):Deferred:={target:=.fn (.func 49) (JY Wg c),args:=#[]}
omit [Payload][qV]in
theorem alh(c:YI)(w:World):stepG prog false (born prog (Uc Wg c)) w=.go (G (w0C.at ⟨JY Wg c++Array.replicate 8 undef,[]⟩ [.code acS]) [NV]) w #[]:=by simp[born,Uc,JY,stepG,unwind,callDeferred,invoke,callFunc,func49,Tryz.f49,seen,GStep.after,G,Frame.enter,Frame.at,w0C,baseD,NV,acS]
omit [Payload][qV]in
theorem ahI(T:Array Value):QuitsD prog 2 0 (G {w0C.at ⟨T,[]⟩ []with mode:=.returning} [NV]):=by
 refine QuitsD.ctl (g':=G NV []) rfl (λw=>?_) ?_
 .simp[G,stepG,unwind,doReturn,results,Frame.at,w0C,baseD,NV,func49,Tryz.f49,seen,GStep.after,goexitEntry]
 refine QuitsD.ctl (g':={G NV []with status:=.finished}) rfl (λw=>?_) ⟨rfl,rfl⟩;simp[G,stepG,unwind,NV,goexitEntry,Frame.catches];rfl
theorem anE(k L:Nat)(hk0:0<k)(hk:k<=128)(hn:n<=128)(hL:L<=140737488355328)(idx:Nat)(akD:idx<n):∃m,∀(w:World)(c:YI)(cs:List Ub)(res:Nat->List Nat),cs.length=k->(∀c∈cs,Dl c.ys L/\∀y∈c.ys,y<256)->
  res idx=comb (EH ((List.range k).map (uj k idx)) cs) (List.replicate L 0)->WIc Wg C n B c k L idx cs w->Wk prog link.tWg Wg C n B (V7 C L res) idx m (born prog (Uc Wg c)) w:=by
 obtain⟨q1,hq1⟩:=apT (main:=false) (Wg:=Wg) (C:=C) (n:=n) (B:=B) (Cl:=(· =idx)) k idx hk ae;obtain⟨q2,hq2⟩:=Xt (main:=false) (Wg:=Wg) (C:=C) (n:=n) (B:=B) (Cl:=(· =idx)) k L hk0 hk hL;refine⟨?m,λw c cs res hlc hcs BF hF=>?_⟩
 case m=>exact(3+(9*(max q1 q2+3)+1+1))+1+1+1+1+1
 have hiI:(idx:Int)<(n:Int):=ae;have T:=p_ (Wg:=Wg) (C:=C) (n:=n) (B:=B) (Cl:=(· =idx));have hlr:Dl ((List.range k).map (uj k idx)) k:=by simp[Dl]
 have Yq:∀x∈(List.range k).map (uj k idx),x<256:=λx hx=>by obtain⟨j,_,rfl⟩:=fA.1 hx;exact Dw
 unfold Wk;refine ay rfl λw₁ h₁=>?_
 replace hF:=hF.rely h₁;clear h₁;rw[alh];refine⟨T.idle _,?_⟩;simp only[JY,acS,Tryz.f49,aB,cu,b_,bU,bY,bg,aV];refine ay rfl λw₁ h₁=>?_
 replace hF:=hF.rely h₁;clear h₁;rw[aC];refine⟨T.idle _,?_⟩;refine ay rfl λw₁ h₁=>?_
 replace hF:=hF.rely h₁;clear h₁;rw[cO];refine⟨T.idle _,?_⟩;simp only[dY,bQ,dB,aT,List.range,List.range.loop];refine ay rfl λw₁ h₁=>?_
 replace hF:=hF.rely h₁;clear h₁;rw[stepG_defer rfl rfl au rfl];refine⟨T.idle _,?_⟩;walk_nrm;refine ay rfl λw₁ h₁=>?_
 replace hF:=hF.rely h₁;clear h₁;rw[aH];refine⟨T.idle _,?_⟩;refine wpC_goes (m:=3) (Q:=λe a' w'=>e=.normal/\a'.defers=[dcall 50 #[.pointer (some ⟨Wg,0,none⟩)]]/\∃v,WD1 C L res idx v w') (Ak T aeA (S:=WIc Wg C n B c k L idx cs) (lst:=8) (nf:=max q1 q2) ag (λw₁ h₁=>?_)) rfl au ?_
 .replace hF:WIc Wg C n B c k L idx cs {w₁ with drawn:=w₁.drawn+1}:=by
   have:=hF.rely h₁;exact⟨⟨this.bs.tg,this.bs.hC,this.bs.hB,this.bs.ow⟩,this.pay,this.ra,this.va,this.rj,this.vj,this.rk,this.vk,this.rd,this.vd,this.rc,this.hc,this.xP⟩
  clear h₁;have Nq:∀x y,WIc Wg C n B c k L idx cs x->Ro Wg C n B (· =idx) x y->WIc Wg C n B c k L idx cs y:=λ_ _ h r=>h.rely r
  have Ry:∀(a:Act)(x y:World),(Exit.normal=.normal/\a.defers=[dcall 50 #[.pointer (some ⟨Wg,0,none⟩)]]/\∃v,WD1 C L res idx v x)->Ro Wg C n B (· =idx) x y->(Exit.normal=.normal/\a.defers=[dcall 50 #[.pointer (some ⟨Wg,0,none⟩)]]/\∃v,WD1 C L res idx v y):=λa x y ⟨h1,h2,v,h3⟩ r=>⟨h1,h2,v,h3.rely r⟩
  generalize{w₁ with drawn:=w₁.drawn+1}=w2 at hF⊢;simp only[dY,bQ,dB,Nat.reduceAdd,aT]
  (co_applyP sD T Nq Ry (i:=0) rfl ag ag ag ag ag (.inl ⟨ax,λ_ hw=>⟨run_eq_of ?aar,?Ud⟩⟩) hF ?ahJ
   case aar=>
    intro Kq uA
    (have h1:=hw.va)
    exact awv
   case Ud=>
    (have h1:=hw.va)
    (refine tK hw.ra (hw.bs.zI hw.ra) ?_;co_evs (exact⟨_,rfl,rfl⟩))
   try walk_nrm)
  (co_applyP sD T Nq Ry (i:=1) rfl ag ag ag ag ag (.inl ⟨ax,λ_ hw=>⟨run_eq_of ?aas,?Ue⟩⟩) hF ?ahK
   case aas=>
    intro Kq uA
    (have h1:=hw.vj)
    exact awv
   case Ue=>
    (have h1:=hw.vj)
    (refine tK hw.rj (hw.bs.zI hw.rj) ?_;co_evs (exact⟨_,rfl,rfl⟩))
   try walk_nrm)
  (co_applyP sD T Nq Ry (i:=2) rfl ag ag ag ag ag (.inl ⟨ax,λ_ hw=>⟨run_eq_of ?aat,?Uf⟩⟩) hF ?ahL
   case aat=>
    intro Kq uA
    (have h1:=hw.vk)
    exact awv
   case Uf=>
    (have h1:=hw.vk)
    (refine tK hw.rk (hw.bs.zI hw.rk) ?_;co_evs (exact⟨_,rfl,rfl⟩))
   try walk_nrm)
  (co_applyP sD T Nq Ry (i:=3) rfl ag ag ag ag ag (.inl ⟨ax,λ_ hw=>⟨run_eq_of ?aau,?Ug⟩⟩) hF ?ahM
   case aau=>
    intro Kq uA
    (have h1:=hw.vj)
    exact awv
   case Ug=>
    (have h1:=hw.vj)
    (refine tK hw.rj (hw.bs.zI hw.rj) ?_;co_evs (exact⟨_,rfl,rfl⟩))
   try walk_nrm)
  (co_applyP sD T Nq Ry (i:=5) rfl ag ag ag ag ag (.inl ⟨ax,λ_ hw=>⟨run_eq_of ?ahN,?acT⟩⟩) hF ?anF
   case ahN=>
    intro Kq uA
    (have h1:=hw.vd)
    exact awv
   case acT=>
    (have h1:=hw.vd)
    (refine tK hw.rd (hw.bs.zI hw.rd) ?_;co_evs (exact⟨_,rfl,rfl⟩))
   try walk_nrm)
  refine F5 (i:=4) ag ⟨_,rfl,.inr (.inl ⟨ax,_,_,_,(λv w'=>∃N,v=.slice (some ⟨N,0,none⟩) k k/\CG Wg C n B (· =idx) w2 N ((List.range k).map (uj k idx)) w'),rfl,by walk_nrm;exact Xr (hq1 w2 hF.bs) (nM _ _),?_⟩)⟩;rintro v w3 ⟨N1,rfl,Rz⟩;replace hF:=hF.ex Rz.bs Rz.ex;refine⟨λ_=>hF,?_⟩;walk_nrm;refine F5 (i:=6) ag ⟨_,rfl,.inr (.inl ⟨ax,_,_,_,(λv w'=>∃N,v=.slice (some ⟨N,0,none⟩) L L/\CG Wg C n B (· =idx) w3 N (comb (EH ((List.range k).map (uj k idx)) cs) (List.replicate L 0)) w'),rfl,by walk_nrm;exact Xr (hq2 w3 N1 0 k c.bD c.oD c.cD _ cs hlr hlc Yq hcs hF.bs (hF.cin Rz.mn Rz.hx)) (nK _ _),?_⟩)⟩;rintro v w' ⟨N,rfl,hg⟩;have hN:N≠C:=awg;replace hF:=hF.ex hg.bs hg.ex;have hwp:V7 C L res idx (.slice (some ⟨N,0,none⟩) L L) w':=⟨N,rfl,hg.mn,hN,by rw[BF];exact hg.hx⟩;clear hg;refine⟨λ_=>hF,?_⟩;walk_nrm;refine Be (i:=7) ag rfl ax (λw₁ hR K hK=>?_);replace hF:=hF.rely hR;replace hwp:=hwp.rely hR;clear hR;go_simp;refine hK _ _ ⟨?_,λ_=>hF,?_⟩
  .co_still T
  clear hK K;walk_nrm;refine Be (i:=8) ag rfl ax (λw₁ hR K hK=>?_);replace hF:=hF.rely hR;replace hwp:=hwp.rely hR;clear hR
  obtain⟨u,hu1,hu2⟩:∃u,w₁.cell? ⟨C,idx,none⟩=some u/\w₁.frozen? ⟨C,idx,none⟩=false:=by exact axC
  go_simp
  try(unfold stored;go_simp)
  refine hK _ _ ⟨?_,λh=>absurd rfl h,?_⟩
  .refine YJ (Cl:=(· =idx)) hF.pay hF.bs.hC (i:=idx) rfl _ ?_
   co_evs (exact⟨_,rfl⟩)
  clear hK K;walk_nrm;refine JZ ag ⟨rfl,rfl,.slice (some ⟨N,0,none⟩) L L,⟨N,rfl,?_,hN,?_⟩,Uh hF.pay akD _⟩ _
  .exact axF
  .exact axK
 .rintro e a' w' ⟨rfl,hd,v,hk⟩;show Goes _ _ _ _ _ 3 (G (w0C.at a' []) [NV]) w';refine ay rfl λw₁ h₁=>?_
  replace hk:=hk.rely h₁;clear h₁;rw[stepG_end];refine⟨T.idle _,?_⟩;refine ay rfl λw₁ h₁=>?_
  replace hk:=hk.rely h₁;clear h₁;rw[stepG_unwind_enter hd func50 (nm_done link) rfl];refine⟨T.idle _,?_⟩;refine bI λw₁ h₁=>?_
  replace hk:=hk.rely h₁;clear h₁;refine⟨rfl,v,hk.wp,hk.has,λW h1 h2=>?_⟩;have hA:=@doneN _ link prog L8 Z8 Z8 Wg C n 0 (idx+1) v;have:=hA (c:={w0C.at ⟨a'.tmps,[]⟩ []with mode:=.returning}) (cs:=[NV]) (qt:=2) rfl (ahI a'.tmps) W ⟨h1,jc⟩;exact this
