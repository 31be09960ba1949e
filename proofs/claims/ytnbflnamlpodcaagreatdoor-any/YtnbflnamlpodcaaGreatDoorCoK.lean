import Derived.Test.YtnbflnamlpodcaaGreatDoorEnM
import Derived.Test.YtnbflnamlpodcaaGreatDoorCoW
set_option maxHeartbeats 4000000
set_option maxRecDepth 100000
namespace Go.Proofs.Y
open Go.RowKit Go.Deep Go.Hp
structure UG(w:World)(bo:Option Addr)(m cap:Nat)(f:Nat->qQ)(d:qQ->List UInt8):Prop where
 hm:m<=1048576
 hcap:m<=cap
 hbo:bo=none->cap=0
 hk:∀i,i<m->(f i).k.length<=9223372036854775807
 hl:∀i,i<m->(f i).l<=9223372036854775807
 bc:BC w bo m f
 dat:∀i,i<m->xE w (f i) (d (f i))
end Go.Proofs.Y
namespace Go.Proofs.Y
open Go.RowKit Go.Deep
theorem UH{w:World}{N:Nat}{c:Array Value}{t:TypeId}(c':Array Value)(h:w.heap[N]?=some (.cells c t)):(w.setRow N c').heap[N]?=some (.cells c' t):=by simp[World.setRow,gB,h]
theorem Q8(w:World){N b:Nat}(c':Array Value)(h:b≠N):(w.setRow N c').heap[b]?=w.heap[b]?:=by simp[World.setRow,gB,dh h]
theorem UI(w:World)(N:Nat)(c':Array Value):(w.setRow N c').heap.size=w.heap.size:=by simp[World.setRow]
structure aiX(w:World)(k L P F:Nat)(l:List UInt8)(w':World):Prop where
 list:w'.rowIs P 34 k (λj=>.slice (some ⟨F,j*L,none⟩) L (k*L-j*L))
 row:w'.rowIs F 5 (k*L) (λj=>.int .u8 ((sH l j:Nat):Int))
 lo:w.heap.size<=P/\w.heap.size<=F
 bel:Below w.heap.size w w'
theorem adN(w:World)(F n:Nat)(vd:Value)(l:List UInt8)(hv:Lies w vd (rF l))(hn:l.length<=n)(hF:w.rowIs F 5 n (λ_=>.int .u8 0)):
  ∃w',(Builtin.copy_ #[34,34] 3 #[.slice (some ⟨F,0,none⟩) n n,vd]).run Tryz.prog w=.ok (goInt l.length) w'/\w'.rowIs F 5 n (λj=>.int .u8 ((sH l j:Nat):Int))/\(∀b,b≠F->w'.heap[b]?=w.heap[b]?)/\w'.heap.size=w.heap.size/\w'.os=w.os/\w'.tape=w.tape/\w'.output=w.output:=by
 obtain⟨cur,hc1,hc2,hc3⟩:=hF;obtain⟨i0,hi,_,hz1,_⟩:=bg Tryz.adO;have hsz:(Tryz.prog.info? 5).map (·.size)=some 1:=by rw[hi];simp[hz1]
 obtain⟨ba,cap,rfl,hle,hcell⟩:=hv;rcases eG l.length with h0|h0
 .obtain rfl:l=[]:=kH h0;refine⟨w,?_,⟨cur,hc1,hc2,λi hi=>by rw[hc3 i hi];rfl⟩,λ_ _=>rfl,rfl,rfl,rfl,rfl⟩;cases ba<;>simp[rF,Builtin.copy_,run_underlying Tryz.underlying34,Builtin.lenOf,Builtin.firstCells,sizeOf,typeInfo,hi,loadCells,loadCellsFrom,storeCells]
 .obtain⟨b,off,rfl,_⟩:=hcell 0 ((rF l)[0]'(by simpa[rF]using h0)) ai
  have hsrc:∀j v,(rF l)[j]?=some v->w.cell? ((⟨b,off,none⟩:Addr).add j)=some v:=λj v hj=>by obtain⟨b',off',e,h⟩:=hcell j v hj;cases e;rw[show(⟨b,off,none⟩:Addr).add j=⟨b,off+j,none⟩from by unfold Addr.add;by_cases h:j=0<;>simp[h]];exact h
  have hl:(rF l).length=l.length:=dY;have hrun:=run_copy_row Tryz.prog w 34 34 3 5 F 0 n n ⟨b,off,none⟩ (rF l).length cap cur 5 (rF l) Tryz.underlying34 hsz hc1 (by rw[hl];exact(nC hn).symm) hsrc (by rw[hl,hc2];omega) (Cb l);rw[hl]at hrun;refine⟨_,by rw[hl];exact hrun,⟨_,UH _ hc1,?_,λi hi=>?_⟩,λb hb=>Q8 w _ hb,UI _ _ _,rfl,rfl,rfl⟩
  .simp[hc2,hl];omega
  .simp only[lX,bf,aS];rw[nN];by_cases h:i<l.length
   .rw[eY (by rw[hl];exact h),vJ h]
   .rw[iO mQ,anR,hl,show l.length+(i-l.length)=i by omega,ao8,hc3 i hi];simp[sH,gZ (show l.length<=i by omega)]
theorem agY(k:Nat)(hk0:1<=k)(hk:k<=128)(vd:Value)(l:List UInt8)(hl:l.length<=65536)(w:World)(hv:Lies w vd (rF l)):
  Calls Tryz.prog 47 #[.int .i64 ((k:Nat):Int),vd] w λe w'=>∃P F,e=.returned (.slice (some ⟨P,0,none⟩) k k)/\aiX w k (sF k l.length) P F l w':=by
 have c1:=Ce (k:Int) (l.length:Int) k l.length rfl rfl hk0 ae hl;have hL1:sF k l.length*k<l.length+k:=by unfold sF;have:=Nat.div_mul_le_self (l.length+k-1) k;omega
 have hL2:l.length<=k*sF k l.length:=by unfold sF;have:=Nat.lt_div_mul_add (a:=l.length+k-1) (b:=k) ae;rw[fZ];omega
 have hLb:sF k l.length<=65536:=by unfold sF;exact Nat.div_le_of_le_mul (by have:=jG hk0 (ak 65536);omega)
 generalize hL:sF k l.length=L at*;have hkL:k*L<=65536+128:=by rw[fZ];omega
 have hlv:∃ba cap,vd=.slice ba l.length cap:=by obtain⟨ba,cap,rfl,_⟩:=hv;exact⟨ba,cap,dY⟩
 have hm1:∀w:World,(Instr.makeSlice 34 (.int .i64 ((k*L:Nat):Int)) (.int .i64 ((k*L:Nat):Int))).run Tryz.prog w=.ok (.slice (some ⟨w.heap.size,0,none⟩) (k*L) (k*L)) (w.alloc (.cells (madeCells #[.int .u8 0] (k*L)) 5)):=
  λw=>run_make_row' (P:=Tryz.prog) 34 5 (.int .u8 0) 1 Tryz.underlying34 Tryz.adO rfl .i64 .i64 (k*L) ae ae w
 have hmul:((k:Nat):Int)*((L:Nat):Int)=((k*L:Nat):Int):=ai;have z1:=World.rowIs_made w (.int .u8 0) (k*L) 5;have b1:Below w.heap.size w (w.alloc (.cells (madeCells #[.int .u8 0] (k*L)) 5)):=(aA _ _).alloc (ak _) _;have s1:(w.alloc (.cells (madeCells #[.int .u8 0] (k*L)) 5)).heap.size=w.heap.size+1:=ai;obtain⟨w2,hcp,r2,o2,s2,h2a,h2b,h2c⟩:=adN _ w.heap.size (k*L) vd l (hv.below b1) hL2 z1;have b2:Below w.heap.size w w2:=⟨h2a,h2b,h2c,ae,λb hb=>by rw[o2 b ae];exact b1.block b hb⟩;have al7:=hm1 w;have m2:=BH k hk w2;have z2:=World.rowIs_made w2 (.slice none 0 0) k 34;have b3:Below w.heap.size w (w2.alloc (.cells (madeCells #[.slice none 0 0] k) 34)):=b2.alloc ae _;have r3:=r2.alloc (.cells (madeCells #[.slice none 0 0] k) 34);have hs2:w2.heap.size=w.heap.size+1:=ae;rw[hs2]at m2 z2;generalize madeCells #[.int .u8 0] (k*L)=Z1 at*;generalize madeCells #[.slice none 0 0] k=Z2 at*;obtain⟨ba,cap,rfl⟩:=hlv;generalize hl':l.length=n at*;have hLk:L*k=k*L:=fZ _ _;clear hm1 s1 o2 s2 h2a h2b h2c z1 b1 hv hmul;have hmul:((k:Nat):Int)*((L:Nat):Int)=((k*L:Nat):Int):=ai;generalize hKL:k*L=kL at*;go_enter Tryz.func47,Tryz.ntmps47
 go_wp2_with(first|(go_at_call 77;(with_reducible refine(c1 _).mono ?_);rintro e w' ⟨rfl,hw'⟩;obtain rfl:=hw'.symm))
 clear hcp al7 m2 c1;have hne:w.heap.size+1≠w.heap.size:=ae;generalize w2.alloc (Obj.cells Z2 34)=w3 at*;clear r2 b2
 go_loopw [8,24] (λ_ vi wr=>∃j:Nat,j<=k/\vi=.int .i64 ((j:Nat):Int)/\wr.rowIs (w.heap.size+1) 34 k (λi=>if i<j then .slice (some ⟨w.heap.size,i*L,none⟩) L (kL-i*L)else .slice none 0 0)/\wr.rowIs w.heap.size 5 kL (λj=>.int .u8 ((sH l j:Nat):Int))/\Below w.heap.size w wr) (λ_ i _=>k-(intOf i).toNat)
 case atStart=>exact⟨0,ae,rfl,z2.congr λi _=>fM,r3,b3⟩
 case round=>
  obtain⟨j,hj,rfl,hR,hr,hb⟩:=hrel;by_cases hlt:j<k
  .have hlt':(j:Int)<(k:Int):=ae;have hjL:j*L+L<=kL:=by rw[<-hKL,<-eU];exact jb L hlt
   have hm1:((j:Nat):Int)*((L:Nat):Int)=((j*L:Nat):Int):=ai;have hm2:(((j:Nat):Int)+1)*((L:Nat):Int)=((j*L+L:Nat):Int):=by rw[Int.add_mul];simp
   have g0:=hR.cell hlt;rw[ah ae]at g0;have g1:=hR.frozen j
   have hR2:=(hR.set j (.slice (some ⟨w.heap.size,j*L,none⟩) L (kL-j*L))).congr (g:=λi=>if i<j+1 then .slice (some ⟨w.heap.size,i*L,none⟩) L (kL-i*L)else .slice none 0 0) (λi _=>by
    by_cases e:i=j
    .subst e;rw[aj rfl,aj ae]
    .rw[ah e];by_cases e2:i<j
     .rw[aj e2,aj ae]
     .rw[ah e2,ah ae])
   have hr2:=hr.setOther (a:=⟨w.heap.size+1,j,none⟩) aol (.slice (some ⟨w.heap.size,j*L,none⟩) L (kL-j*L));have hb2:=hb.setCell (p:=⟨w.heap.size+1,j,none⟩) aom (.slice (some ⟨w.heap.size,j*L,none⟩) L (kL-j*L));clear hR hr hb z2 r3 b3
   have hif:kL=j*L->j*L=0:=λe=>by have:L=0:=ae;rw[this,Nat.mul_zero]
   generalize hjl:j*L=jL at*
   have ani:(if kL=jL then some (⟨w.heap.size,0,none⟩:Addr)else some ⟨w.heap.size,jL,none⟩)=some ⟨w.heap.size,jL,none⟩:=by
    by_cases e:kL=jL
    .rw[aj e,hif e]
    .rw[ah e]
   clear hif;have d1:(jL:Int)<=((jL+L:Nat):Int):=ae;have d2:((jL+L:Nat):Int)<=(kL:Int):=ae;have d3:jL+L-jL=L:=ae;go_wp2
   go_roundw
   case rel=>exact⟨j+1,ae,aV,hR2,hr2,hb2⟩
   case measure=>simp[intOf];omega
  .obtain rfl:j=k:=ae;have hnl:¬((j:Int)<(j:Int)):=ae;go_wp2;go_ret;rw[<-hKL]at hr;exact⟨w.heap.size+1,rfl,w.heap.size,hR.congr λi hi=>by rw[aj hi,hKL],hr,⟨ae,ak _⟩,hb⟩
end Go.Proofs.Y
namespace Go.Proofs.Y
open Go.Conc Go.RowKit Go.Gh
open Go.ConcR (Payload)
section
variable {main:Bool}{R:World->World->Prop}{D:World->World->Array Event->Prop}
def MI(R:World->World->Prop)(w0:World)(m:Nat)(a:Act)(w:World):Prop:=∃(k p x y:Nat)(v2 v3 v4 v7 v8 v9 v10 v11 v12 v13 v14 v15 v16 v17 v18 v19:Value),k<=8/\p<256/\x<256/\y<256/\Hid (mulN (8-k) p x y=m)/\Since R w0 w/\a=⟨#[.int .u8 ((x:Nat):Int),.int .u8 ((y:Nat):Int),v2,v3,v4,.int .u8 ((p:Nat):Int),.int .i64 ((k:Nat):Int),v7,v8,v9,v10,v11,v12,v13,v14,v15,v16,v17,v18,v19],[]⟩
def muM(a:Act)(_:World):Nat:=8-(intOf (a.tmps.getD 6 undef)).toNat
theorem akI(T:Terms R D):∃n,∀(a b:Nat)(w:World),a<256->b<256->CallsC Tryz.prog main R D 119 #[.int .u8 (a:Int),.int .u8 (b:Int)] n w λv w'=>v=.int .u8 (mul a b:Nat)/\Since R w w':=by
 obtain⟨kx,hx⟩:=Wi (main:=main) T;co_apply Exists.intro;intro a b w ha hb;co_apply callsC_of_wpC Tryz.func119 ax rfl;have hF:Since R w w:=.refl w;simp only[Tryz.ntmps119,dU,bM,dA,Nat.reduceAdd,Nat.reduceSub,cu,b_,bV,bY,bf,aW]
 co_go T (Since.rely T) hF (co_quiet T)
 co_apply jw T (MI R w (mul a b)) muM _ 8
 .exact⟨0,0,a,b,_,_,_,_,_,_,_,_,_,_,_,_,_,_,_,_,ae,ae,ha,hb,rfl,hF,rfl⟩
 .simp[muM]
 .rintro act w' ⟨k,p,x,y,v2,v3,v4,v7,v8,v9,v10,v11,v12,v13,v14,v15,v16,v17,v18,v19,hk,hp,hx',hy,H,hF,rfl⟩
  co_go T (Since.rely T) hF (co_quiet T)
  co_split T (decide (((k:Nat):Int)<8))
  .intro hlt;have hlt':k<8:=aoL;clear hlt;have hand:=aaO y hy;have G:=Ls hlt' H.out;clear H
   co_ctl T
   co_then
   co_ctl T
   co_ctl T
   co_apply wpC_seq_mid T (λa' w'=>∃(p':Nat)(v8 v9 v10 v11 v12 v13:Value),p'<256/\p'=(if y%2=1 then p^^^x else p)/\Since R w w'/\a'=⟨#[.int .u8 ((x:Nat):Int),.int .u8 ((y:Nat):Int),v2,v3,v4,.int .u8 ((p':Nat):Int),.int .i64 ((k:Nat):Int),.bool (decide (((k:Nat):Int)<8)),v8,v9,v10,v11,v12,v13,v14,v15,v16,v17,v18,v19],[]⟩)
   .co_go T (Since.rely T) hF (co_quiet T)
    co_split T (((y:Nat):Int)%2==1)
    .intro h1;have h2:y%2=1:=oG;clear h1
     co_go T (Since.rely T) hF (co_quiet T)
     rw[Wh hp hx'];exact⟨p^^^x,_,_,_,_,_,_,Am hp hx',by rw[aj h2],hF,rfl⟩
    .intro h1;have h2:¬y%2=1:=oG;clear h1
     co_go T (Since.rely T) hF (co_quiet T)
     exact⟨p,_,_,_,_,_,_,hp,by rw[ah h2],hF,rfl⟩
   .clear hF;rintro a' w' ⟨p',v8,v9,v10,v11,v12,v13,hp',hpe,hF,rfl⟩;rw[<-hpe]at G;clear hpe
    co_go T (Since.rely T) hF (co_quiet T)
    co_apply opsC_call T rfl ax rfl
    .walk_nrm;exact hx _ _ hx'
    rintro v w' ⟨rfl,hs⟩;replace hF:Since R w w':=hs.elim (λe=>e▸hF) (λr=>Since.rely T hF r);clear hs;walk_nrm
    co_go T (Since.rely T) hF (co_quiet T)
    have e1:((y:Nat):Int)/2=((y/2:Nat):Int):=ae;have e2:IntKind.i64.wrap (((k:Nat):Int)+1)=((k+1:Nat):Int):=fD;simp only[e1,e2];refine⟨⟨k+1,p',tx x,y/2,_,_,_,_,_,_,_,_,_,_,_,_,_,_,_,_,ae,hp',Io hx',ae,G,hF,rfl⟩,?_⟩;simp[muM,intOf];omega
  .intro hlt;obtain rfl:k=8:=apU;clear hlt
   co_go T (Since.rely T) hF (co_quiet T)
   refine⟨rfl,_,resultsC_tmp ax _,?_,hF⟩;have G:p=mul a b:=H.out;simp[G]
def II(R:World->World->Prop)(w0:World)(m:Nat)(a:Act)(w:World):Prop:=∃(k p x:Nat)(v0 v1 v2 v5 v7 v8 v9 v10 v11 v12 v13 v14 v15:Value),k<=7/\p<256/\x<256/\Hid (YZ (7-k) p x=m)/\Since R w0 w/\a=⟨#[v0,v1,v2,.int .u8 ((p:Nat):Int),.int .u8 ((x:Nat):Int),v5,.int .i64 ((k:Nat):Int),v7,v8,v9,v10,v11,v12,v13,v14,v15],[]⟩
def aiY(a:Act)(_:World):Nat:=7-(intOf (a.tmps.getD 6 undef)).toNat
theorem akJ(T:Terms R D):∃n,∀(a:Nat)(w:World),a<256->CallsC Tryz.prog main R D 93 #[.int .u8 (a:Int)] n w λv w'=>v=.int .u8 (inv a:Nat)/\Since R w w':=by
 obtain⟨kx,hx⟩:=akI (main:=main) T;co_apply Exists.intro;intro a w ha;co_apply callsC_of_wpC Tryz.func93 ax rfl;have hF:Since R w w:=.refl w;simp only[Tryz.ntmps93,dU,bM,dA,Nat.reduceAdd,Nat.reduceSub,cu,b_,bV,bY,bf,aW]
 co_go T (Since.rely T) hF (co_quiet T)
 co_apply jw T (II R w (inv a)) aiY _ 7
 .exact⟨0,a,1,_,_,_,_,_,_,_,_,_,_,_,_,_,ae,ha,ae,rfl,hF,rfl⟩
 .simp[aiY]
 .rintro act w' ⟨k,p,x,v0,v1,v2,v5,v7,v8,v9,v10,v11,v12,v13,v14,v15,hk,hp,hx',H,hF,rfl⟩
  co_go T (Since.rely T) hF (co_quiet T)
  co_split T (decide (((k:Nat):Int)<7))
  .intro hlt;have hlt':k<7:=aoL;clear hlt;have hpp:mul p p<256:=mul_lt hp
   co_go T (Since.rely T) hF (co_quiet T)
   co_apply opsC_call T rfl ax rfl
   .walk_nrm;exact hx _ _ _ hp hp
   rintro v w' ⟨rfl,hs⟩;replace hF:Since R w w':=hs.elim (λe=>e▸hF) (λr=>Since.rely T hF r);clear hs;walk_nrm
   co_go T (Since.rely T) hF (co_quiet T)
   co_apply opsC_call T rfl ax rfl
   .walk_nrm;exact hx _ _ _ hx' hpp
   rintro v w' ⟨rfl,hs⟩;replace hF:Since R w w':=hs.elim (λe=>e▸hF) (λr=>Since.rely T hF r);clear hs;walk_nrm
   co_go T (Since.rely T) hF (co_quiet T)
   have e2:IntKind.i64.wrap (((k:Nat):Int)+1)=((k+1:Nat):Int):=fD;simp only[e2];refine⟨⟨k+1,mul p p,mul x (mul p p),_,_,_,_,_,_,_,_,_,_,_,_,_,ae,hpp,mul_lt hx',SS hlt' H.out,hF,rfl⟩,?_⟩;simp[aiY,intOf];omega
  .intro hlt;obtain rfl:k=7:=apU;clear hlt
   co_go T (Since.rely T) hF (co_quiet T)
   refine⟨rfl,_,resultsC_tmp ax _,?_,hF⟩;have G:x=inv a:=H.out;simp[G]
end
def Lu(k i c:Nat):List Nat:=(List.range k).map λj=>if j<c then sQ k i j else 0
theorem abQ(k i:Nat):Lu k i 0=List.replicate k 0:=by unfold Lu;apply jg;intro j;by_cases h:j<k<;>simp[h]
theorem adP(k i c:Nat)(hc:c<k):(Lu k i c).set c (sQ k i c)=Lu k i (c+1):=by
 unfold Lu;apply jg;intro j;rw[kG];by_cases h:c=j
 .subst h;simp[hc]
 .rw[ah h];by_cases hj:j<k
  .simp only[bQ,l7 hj,dK];by_cases h1:j<c
   .rw[aj h1,aj ae]
   .rw[ah h1,ah ae]
  .simp[hj]
theorem adQ(k i:Nat):Lu k i k=(List.range k).map (sQ k i):=by unfold Lu;exact nM λj hj=>by rw[aj iR]
theorem abR(k i:Nat)(hi:i<k):(List.replicate k 0).set i 1=(List.range k).map (sQ k i):=by
 apply jg;intro j;rw[kG];by_cases h:i=j
 .subst h;simp[hi,sQ]
 .rw[ah h];by_cases hj:j<k
  .simp[hj,sQ,hi,dh h]
  .simp[hj]
section
variable [Payload][qN]{main:Bool}{Wg C n B:Nat}{Cl:Nat->Prop}
omit [qN]in
theorem CG.set{w0 w:World}(h0:Bs C B w0){N:Nat}{cur:List Nat}(h:CG Wg C n B Cl w0 N cur w)(i x:Nat):CG Wg C n B Cl w0 N (cur.set i x) (w.setCell ⟨N,i,none⟩ (.int .u8 ((x:Nat):Int))):=
 ⟨h.bs.set _ _,Wj h.ex h0 h.lo _,h.lo,rD (w:=w) (w':=w.setCell _ _) rfl dJ h.mn,by rw[heap_set w h.hx,Pg]⟩
omit [Payload][qN]in
theorem adR(k:Nat)(hk:k<=128):(∀w:World,(Instr.makeSlice 34 (.int .i64 (k:Int)) (.int .i64 (k:Int))).run Tryz.prog w=.ok (.slice (some ⟨w.heap.size,0,none⟩) k k) (w.alloc (.cells (madeCells #[.int .u8 0] k) 5)))/\∀(w:World)(es:Array Event),(Instr.makeSlice 34 (.int .i64 (k:Int)) (.int .i64 (k:Int))).events Tryz.prog w es=es:=by
 obtain⟨i0,hi,hz0,hz1,hz2⟩:=bg OI;refine⟨λw=>?_,λw es=>?_⟩
 .have:=iZ (P:=Tryz.prog) w 34 5 i0 (.int .u8 0) Tryz.underlying34 hi hz0 .i64 .i64 (k:Int) (k:Int) ae ae fO ae;rw[hz1,show(Value.int .u8 0).cells=#[.int .u8 0]from rfl]at this;exact aqb
 .exact events_make (P:=Tryz.prog) w 34 5 i0 (.int .u8 0) Tryz.underlying34 hi hz0 .i64 .i64 (k:Int) (k:Int) ae ae fO ae aox es
theorem abS(k i:Nat)(hk:k<=128)(hi:i<k):∃q,∀(w:World),Bs C B w->
  CallsC Tryz.prog main (Ro Wg C n B Cl) (Dg Wg C n B Cl) 92 #[.int .i64 ((k:Nat):Int),.int .i64 ((i:Nat):Int)] q w λv w'=>∃N,v=.slice (some ⟨N,0,none⟩) k k/\CG Wg C n B Cl w N ((List.range k).map (sQ k i)) w':=by
 obtain⟨hmk,hme⟩:=adR k hk;have hiI:(i:Int)<(k:Int):=ae;co_apply Exists.intro;intro w hb;co_apply callsC_of_wpC Tryz.func92 ax rfl;simp only[Tryz.ntmps92,dU,bM,dA,Nat.reduceAdd,Nat.reduceSub,cu,b_,bV,bY,bf,aW];have hF:CF Wg C n B Cl w w:=⟨hb,.refl w⟩;co_apply aZ p_;co_reg p_;co_op CF.rely hF (co_quiet p_);co_apply aX p_;co_then;co_apply aZ p_;co_reg p_;co_op CF.rely hF (co_quiet p_)
 co_opw CF.rely hF (skip) (rw[listed_nil jO];exact xP hF.bs.hC _ rfl)
 replace hF:=hF.alloc k;generalize hN:Array.size (World.heap _)=N at hF⊢;clear hN;co_op CG.rely hF (co_quiet p_);co_apply aX p_;co_then;co_apply aZ p_;co_reg p_;co_op CG.rely hF (co_quiet p_);co_op CG.rely hF (co_quiet p_)
 co_opw CG.rely hF (skip) (co_still p_)
 have hNC:N≠C:=apZ;have hu:∀{w:World}(h:w.heap[N]?=some (.cells (sD (List.replicate k 0)) 5)),w.cell? ⟨N,i,none⟩=some (.int .u8 0)/\w.frozen? ⟨N,i,none⟩=false:=λh=>⟨by rw[cell_of _ h,wR];simp[hi],uI _ h i⟩
 co_opw CG.rely hF (have hc:=(hu hF.hx).1;have hz:=(hu hF.hx).2) (refine Lr hF.mn hNC (hF.bs.lt hF.mn) ?_;co_evs (exact⟨_,_,rfl,rfl⟩))
 replace hF:=hF.set hb i 1;rw[abR k i hi]at hF;clear hc hz;co_apply aX p_;co_then;co_apply aZ p_;co_reg p_;co_op CG.rely hF (co_quiet p_);co_op CG.rely hF (co_quiet p_);co_apply aX p_;co_then;co_apply wpC_ret p_;exact aql
def RoI(Wg C n B:Nat)(Cl:Nat->Prop)(w0:World)(k i N:Nat)(a:Act)(w:World):Prop:=
 ∃(j:Nat)(v2 v3 v4 v6 v7 v8 v9 v10 v11 v12 v13 v14 v15 v18 v19 v20 v21 v22 v23 v24 v25 v26 v27 v28 v29:Value),j<=k/\CG Wg C n B Cl w0 N (Lu k i j) w/\a=⟨#[.int .i64 ((k:Nat):Int),.int .i64 ((i:Nat):Int),v2,v3,v4,.slice (some ⟨N,0,none⟩) k k,v6,v7,v8,v9,v10,v11,v12,v13,v14,v15,.int .i64 ((k:Nat):Int),.int .i64 ((j:Nat):Int),v18,v19,v20,v21,v22,v23,v24,v25,v26,v27,v28,v29],[]⟩
def muR(k:Nat)(a:Act)(_:World):Nat:=k-(intOf (a.tmps.getD 17 undef)).toNat
theorem akK(k i:Nat)(hk:k<=128)(hi:i<128):∃q,∀(w:World),Bs C B w->
  CallsC Tryz.prog main (Ro Wg C n B Cl) (Dg Wg C n B Cl) 52 #[.int .i64 ((k:Nat):Int),.int .i64 ((i:Nat):Int)] q w λv w'=>∃N,v=.slice (some ⟨N,0,none⟩) k k/\CG Wg C n B Cl w N ((List.range k).map (sQ k i)) w':=by
 obtain⟨hmk,hme⟩:=adR k hk;by_cases hik:i<k
 .obtain⟨qu,hu⟩:=abS (main:=main) (Wg:=Wg) (C:=C) (n:=n) (B:=B) (Cl:=Cl) k i hk hik;have hiI:(i:Int)<(k:Int):=ae;co_apply Exists.intro;intro w hb;co_apply callsC_of_wpC Tryz.func52 ax rfl;simp only[Tryz.ntmps52,dU,bM,dA,Nat.reduceAdd,Nat.reduceSub,cu,b_,bV,bY,bf,aW];have hF:CF Wg C n B Cl w w:=⟨hb,.refl w⟩;co_apply aZ p_;co_reg p_;co_op CF.rely hF (co_quiet p_);co_apply aX p_;co_then;co_apply aZ p_ (n₂:=0);co_apply aZ p_;co_reg p_;co_op CF.rely hF (co_quiet p_);co_op CF.rely hF (co_quiet p_);co_op CF.rely hF (co_quiet p_);co_apply aX p_;co_then;co_apply wpC_cond p_ (t:=true)
  focus(simp[Act.eval])
  simp only[aF]
  co_go p_ CF.rely hF (co_quiet p_)
  co_apply opsC_call p_ rfl ax rfl
  .walk_nrm;exact hu _ hF.bs
  rintro v w' ⟨N,rfl,hg⟩;replace hF:CG Wg C n B Cl w N ((List.range k).map (sQ k i)) w':=⟨hg.bs,hF.ex.trans hg.ex,aK hF.ex.size hg.lo,hg.mn,hg.hx⟩;clear hg;walk_nrm
  co_go p_ CG.rely hF (co_quiet p_)
  exact aql
 .obtain⟨qi,hv⟩:=akJ (main:=main) (p_ (Wg:=Wg) (C:=C) (n:=n) (B:=B) (Cl:=Cl));have hiI:¬((i:Int)<(k:Int)):=ae;co_apply Exists.intro;intro w hb;co_apply callsC_of_wpC Tryz.func52 ax rfl;simp only[Tryz.ntmps52,dU,bM,dA,Nat.reduceAdd,Nat.reduceSub,cu,b_,bV,bY,bf,aW];have hF:CF Wg C n B Cl w w:=⟨hb,.refl w⟩;co_apply aZ p_;co_reg p_;co_op CF.rely hF (co_quiet p_);co_apply aX p_;co_then;co_apply aZ p_;co_apply aZ p_;co_reg p_;co_op CF.rely hF (co_quiet p_);co_op CF.rely hF (co_quiet p_);co_op CF.rely hF (co_quiet p_);co_apply aX p_;co_then;co_apply wpC_cond p_ (t:=false)
  focus(simp[Act.eval])
  simp only[bF,aU];co_apply wpC_skip p_;co_then;co_apply aZ p_;co_reg p_;co_op CF.rely hF (co_quiet p_)
  co_opw CF.rely hF (skip) (rw[listed_nil jO];exact xP hF.bs.hC _ rfl)
  replace hF:=hF.alloc k;rw[<-abQ k i]at hF;generalize hN:Array.size (World.heap _)=N at hF⊢;clear hN;have hNC:N≠C:=apZ;co_op CG.rely hF (co_quiet p_);co_apply aX p_;co_then;co_apply aZ p_;co_apply aZ p_;co_reg p_;co_op CG.rely hF (co_quiet p_);co_op CG.rely hF (co_quiet p_);co_op CG.rely hF (co_quiet p_);co_apply aX p_;co_then;co_apply jS p_;co_apply jw p_ (RoI Wg C n B Cl w k i N) (muR k) _ k
  .exact⟨0,_,_,_,_,_,_,_,_,_,_,_,_,_,_,_,_,_,_,_,_,_,_,_,_,_,gV _,hF,rfl⟩
  .simp[muR]
  rintro a w' ⟨j,v2,v3,v4,v6,v7,v8,v9,v10,v11,v12,v13,v14,v15,v18,v19,v20,v21,v22,v23,v24,v25,v26,v27,v28,v29,hj,hF,rfl⟩;co_apply aZ p_;co_reg p_;co_op CG.rely hF (co_quiet p_);co_apply aX p_;co_then;co_apply aZ p_
  co_split p_ (decide ((j:Int)<(k:Int)))
  .intro hjl;have adM:j<k:=aoM;have hjI:(j:Int)<(k:Int):=ae;clear hjl;have hx128:i^^^j<128:=LD hi ae;have hxr:bits .xor .i64 ((i:Nat):Int) ((j:Nat):Int)=((i^^^j:Nat):Int):=Nh _ _ ae ae;have hcv:IntKind.u8.wrap (((i^^^j:Nat):Int))=((i^^^j:Nat):Int):=by rw[anX];omega
   have hrv:sQ k i j=inv (i^^^j):=by unfold sQ;rw[ah hik,bu ae]
   co_ctl p_
   co_then
   co_ctl p_
   co_ctl p_
   co_ctl p_
   co_reg p_;co_op CG.rely hF (co_quiet p_);co_op CG.rely hF (co_quiet p_);co_apply aX p_;co_then;co_reg p_;co_op CG.rely hF (co_quiet p_);co_op CG.rely hF (co_quiet p_);co_op CG.rely hF (co_quiet p_);co_op CG.rely hF (co_quiet p_);co_op CG.rely hF (co_quiet p_);have hce:∀(w:World)(es:Array Event),(convert 3 5 (.int .i64 ((i^^^j:Nat):Int))).events Tryz.prog w es=es:=λw es=>by simp[convert,Conv.intToInt,go_sem,Tryz.runUnderlying3,Tryz.runUnderlying5]
   co_opw CG.rely hF (skip) (co_still p_)
   clear hce;co_apply opsC_call p_ rfl ax rfl
   .walk_nrm;exact hv _ _ (show i^^^j<256 by omega)
   rintro v w' ⟨rfl,hs⟩;replace hF:CG Wg C n B Cl w N (Lu k i j) w':=hs.elim (λe=>e▸hF) (λr=>hF.rely r);clear hs;walk_nrm
   co_opw CG.rely hF (skip) (co_still p_)
   have hcl:∀{w:World}(h:w.heap[N]?=some (.cells (sD (Lu k i j)) 5)),w.cell? ⟨N,j,none⟩=some (.int .u8 0)/\w.frozen? ⟨N,j,none⟩=false:=λh=>⟨by rw[cell_of _ h,wR];simp[Lu,adM],uI _ h j⟩
   co_opw CG.rely hF (have hc:=(hcl hF.hx).1;have hz:=(hcl hF.hx).2) (refine Lr hF.mn hNC (hF.bs.lt hF.mn) ?_;co_evs (exact⟨_,_,rfl,rfl⟩))
   replace hF:=hF.set hb j (inv (i^^^j));rw[show(Lu k i j).set j (inv (i^^^j))=Lu k i (j+1)from by rw[<-hrv,adP k i j adM]]at hF;clear hc hz;co_apply aX p_;co_then;co_reg p_;co_op CG.rely hF (co_quiet p_);co_op CG.rely hF (co_quiet p_);co_apply aX p_;co_then;have hw1:IntKind.i64.wrap ((j:Int)+1)=((j+1:Nat):Int):=fD;simp only[hw1];refine⟨⟨j+1,_,_,_,_,_,_,_,_,_,_,_,_,_,_,_,_,_,_,_,_,_,_,_,_,_,ae,hF,rfl⟩,?_⟩;simp[muR,intOf];omega
  .intro hjl;obtain rfl:j=k:=aoN;clear hjl;rw[adQ]at hF
   co_go p_ CG.rely hF (co_quiet p_)
   exact aql
end
end Go.Proofs.Y
namespace Go.Proofs.Y
open Go.Conc Go.ConcN Go.RowKit Go.Gh Go.Conc.Lib Go.ConcR.Gen Go.ConcN.Gen
open Go.ConcR (Payload)
structure UJ where
 ba:Nat
 bj:Nat
 bk:Nat
 bd:Nat
 bD:Nat
 oD:Nat
 cD:Nat
theorem SV{P:Program}{main:Bool}{R:World->World->Prop}{D:World->World->Array Event->Prop}{f:FuncId}{args:Array Value}{n m:Nat}{w:World}{Post:Value->World->Prop}(h:CallsC P main R D f args n w Post)(hn:n<=m):CallsC P main R D f args m w Post:=
 let⟨fn,c,h1,h2,h3,h4⟩:=h
 ⟨fn,c,h1,h2,h3,wpC_more h4 hn⟩
section
variable [Payload][qN]{main:Bool}{Wg C n B:Nat}{Cl:Nat->Prop}
structure WIc(Wg C n B:Nat)(c:UJ)(k L idx:Nat)(cs:List Ph)(w:World):Prop where
 bs:Bs C B w
 pay:PayAt C n w
 ra:Og Wg C B w c.ba
 va:w.cell? ⟨c.ba,0,none⟩=some (.slice (some ⟨C,0,none⟩) n n)
 rj:Og Wg C B w c.bj
 vj:w.cell? ⟨c.bj,0,none⟩=some (.int .i64 ((idx:Nat):Int))
 rk:Og Wg C B w c.bk
 vk:w.cell? ⟨c.bk,0,none⟩=some (.int .i64 ((k:Nat):Int))
 rd:Og Wg C B w c.bd
 vd:w.cell? ⟨c.bd,0,none⟩=some (.slice (some ⟨c.bD,c.oD,none⟩) k c.cD)
 rc:Og Wg C B w c.bD
 hc:∀j d,cs[j]?=some d->w.cell? ⟨c.bD,c.oD+j,none⟩=some (.slice d.bs L d.co)
 wF:∀d∈cs,Og Wg C B w d.bo/\(0<L->d.bs=some ⟨d.bo,d.oo,none⟩)/\∀i y,d.ys[i]?=some y->w.cell? ⟨d.bo,d.oo+i,none⟩=some (.int .u8 ((y:Nat):Int))
theorem WIc.ex{w w₁:World}{c:UJ}{k L idx:Nat}{cs:List Ph}(h:WIc Wg C n B c k L idx cs w)(hb:Bs C B w₁)(r:Ex Wg C n B Cl (λ_=>False) w w₁):WIc Wg C n B c k L idx cs w₁:=by
 have st:∀{b:Nat},Og Wg C B w b->∀o,w₁.cell? ⟨b,o,none⟩=w.cell? ⟨b,o,none⟩:=λhb o=>aoa
 exact⟨hb,r.pay h.pay,r.We h.ra,(st h.ra _).trans h.va,r.We h.rj,(st h.rj _).trans h.vj,r.We h.rk,(st h.rk _).trans h.vk,r.We h.rd,(st h.rd _).trans h.vd,r.We h.rc,λj d e=>(st h.rc _).trans (h.hc j d e),λd hd=>let⟨h1,h2,h3⟩:=h.wF d hd;⟨r.We h1,h2,λi y e=>(st h1 _).trans (h3 i y e)⟩⟩
theorem WIc.rely{w w₁:World}{c:UJ}{k L idx:Nat}{cs:List Ph}(h:WIc Wg C n B c k L idx cs w)(r:Ro Wg C n B Cl w w₁):WIc Wg C n B c k L idx cs w₁:=h.ex (h.bs.rely r) r.ex
theorem WIc.cin{w:World}{c:UJ}{k L idx N:Nat}{ws:List Nat}{cs:List Ph}(h:WIc Wg C n B c k L idx cs w)(hm:Mine w N)(hx:w.heap[N]?=some (.cells (sD ws) 5)):CIn Wg C B N 0 c.bD c.oD L ws cs w:=
 ⟨.inl hm,h.bs.lt hm,h.rc,h.bs.yu h.rc,λj x e=>by rw[aS,cell_of _ hx,wR,e];rfl,h.hc,λd hd=>let⟨h1,h2,h3⟩:=h.wF d hd;⟨h1,h.bs.yu h1,h2,h3⟩⟩
def w0C:Frame:=baseD 49
noncomputable def JE:Frame:={(default:Frame)with fn:=Tryz.prog.funcs.size,defers:=[],mode:=.panicking [goexitEntry]}
noncomputable def Y7:Code:=Tryz.f49.body.getD .skip
def He(Wg:Nat)(c:UJ):Array Value:=#[.pointer (some ⟨Wg,0,none⟩),.pointer (some ⟨c.bk,0,none⟩),.pointer (some ⟨c.bj,0,none⟩),.pointer (some ⟨c.bd,0,none⟩),.pointer (some ⟨c.ba,0,none⟩)]
def Pj(Wg:Nat)(c:UJ):Deferred:={target:=.fn (.func 49) (He Wg c),args:=#[]}
omit [Payload][qN]in
theorem agZ(c:UJ)(w:World):stepG Tryz.prog false (born Tryz.prog (Pj Wg c)) w=.go (G (w0C.at ⟨He Wg c++Array.replicate 8 undef,[]⟩ [.code Y7]) [JE]) w #[]:=by simp[born,Pj,He,stepG,unwind,callDeferred,invoke,callFunc,Tryz.func49,Tryz.f49,seen,GStep.after,G,Frame.enter,Frame.at,w0C,baseD,JE,Y7]
omit [Payload][qN]in
theorem adS(T:Array Value):QuitsD Tryz.prog 2 0 (G {w0C.at ⟨T,[]⟩ []with mode:=.returning} [JE]):=by
 refine QuitsD.ctl (g':=G JE []) rfl (λw=>?_) ?_
 .simp[G,stepG,unwind,doReturn,results,Frame.at,w0C,baseD,JE,Tryz.func49,Tryz.f49,seen,GStep.after,goexitEntry]
 refine QuitsD.ctl (g':={G JE []with status:=.finished}) rfl (λw=>?_) ⟨rfl,rfl⟩;simp[G,stepG,unwind,JE,goexitEntry,Frame.catches];rfl
theorem aiZ(k L:Nat)(hk0:0<k)(hk:k<=128)(hn:n<=128)(hL:L<=140737488355328)(idx:Nat)(hidx:idx<n):∃m,∀(w:World)(c:UJ)(cs:List Ph)(res:Nat->List Nat),cs.length=k->(∀c∈cs,AL c.ys L/\∀y∈c.ys,y<256)->
  res idx=comb (BZ ((List.range k).map (sQ k idx)) cs) (List.replicate L 0)->WIc Wg C n B c k L idx cs w->Wk Tryz.prog link.tWg Wg C n B (Q9 C L res) idx m (born Tryz.prog (Pj Wg c)) w:=by
 obtain⟨q1,hq1⟩:=akK (main:=false) (Wg:=Wg) (C:=C) (n:=n) (B:=B) (Cl:=(· =idx)) k idx hk ae;obtain⟨q2,hq2⟩:=SX (main:=false) (Wg:=Wg) (C:=C) (n:=n) (B:=B) (Cl:=(· =idx)) k L hk0 hk hL;refine⟨?m,λw c cs res hlc hcs hres hF=>?_⟩
 case m=>exact(3+(9*(max q1 q2+3)+1+1))+1+1+1+1+1
 have hiI:(idx:Int)<(n:Int):=ae;have T:=p_ (Wg:=Wg) (C:=C) (n:=n) (B:=B) (Cl:=(· =idx));have hlr:AL ((List.range k).map (sQ k idx)) k:=by simp[AL]
 have hrl:∀x∈(List.range k).map (sQ k idx),x<256:=λx hx=>by obtain⟨j,_,rfl⟩:=eX.1 hx;exact AV
 unfold Wk;refine ay rfl λw₁ h₁=>?_
 replace hF:=hF.rely h₁;clear h₁;rw[agZ];refine⟨T.idle _,?_⟩;simp only[He,Y7,Tryz.f49,aB,cu,b_,bV,bY,bf,aW];refine ay rfl λw₁ h₁=>?_
 replace hF:=hF.rely h₁;clear h₁;rw[aC];refine⟨T.idle _,?_⟩;refine ay rfl λw₁ h₁=>?_
 replace hF:=hF.rely h₁;clear h₁;rw[cO];refine⟨T.idle _,?_⟩;simp only[dU,bM,dA,aS,List.range,List.range.loop];refine ay rfl λw₁ h₁=>?_
 replace hF:=hF.rely h₁;clear h₁;rw[stepG_defer rfl rfl au rfl];refine⟨T.idle _,?_⟩;walk_nrm;refine ay rfl λw₁ h₁=>?_
 replace hF:=hF.rely h₁;clear h₁;rw[aH];refine⟨T.idle _,?_⟩;refine wpC_goes (m:=3) (Q:=λe a' w'=>e=.normal/\a'.defers=[dcall 50 #[.pointer (some ⟨Wg,0,none⟩)]]/\∃v,WD1 C L res idx v w') (yR T aaN (S:=WIc Wg C n B c k L idx cs) (lst:=8) (nf:=max q1 q2) ag (λw₁ h₁=>?_)) rfl au ?_
 .replace hF:WIc Wg C n B c k L idx cs {w₁ with drawn:=w₁.drawn+1}:=by
   have:=hF.rely h₁;exact⟨⟨this.bs.tg,this.bs.hC,this.bs.hB,this.bs.ow⟩,this.pay,this.ra,this.va,this.rj,this.vj,this.rk,this.vk,this.rd,this.vd,this.rc,this.hc,this.wF⟩
  clear h₁;have hSR:∀x y,WIc Wg C n B c k L idx cs x->Ro Wg C n B (· =idx) x y->WIc Wg C n B c k L idx cs y:=λ_ _ h r=>h.rely r
  have hQR:∀(a:Act)(x y:World),(Exit.normal=.normal/\a.defers=[dcall 50 #[.pointer (some ⟨Wg,0,none⟩)]]/\∃v,WD1 C L res idx v x)->Ro Wg C n B (· =idx) x y->(Exit.normal=.normal/\a.defers=[dcall 50 #[.pointer (some ⟨Wg,0,none⟩)]]/\∃v,WD1 C L res idx v y):=λa x y ⟨h1,h2,v,h3⟩ r=>⟨h1,h2,v,h3.rely r⟩
  generalize{w₁ with drawn:=w₁.drawn+1}=w2 at hF⊢;simp only[dU,bM,dA,Nat.reduceAdd,aS]
  (co_applyP rE T hSR hQR (i:=0) rfl ag ag ag ag ag (.inl ⟨ax,λ_ hw=>⟨run_eq_of ?Wl,?Pm⟩⟩) hF ?adT
   case Wl=>
    intro Kq hKq
    (have h1:=hw.va)
    exact aqc
   case Pm=>
    (have h1:=hw.va)
    (refine su hw.ra (hw.bs.yu hw.ra) ?_;co_evs (exact⟨_,rfl,rfl⟩))
   try walk_nrm)
  (co_applyP rE T hSR hQR (i:=1) rfl ag ag ag ag ag (.inl ⟨ax,λ_ hw=>⟨run_eq_of ?Wn,?Pn⟩⟩) hF ?adU
   case Wn=>
    intro Kq hKq
    (have h1:=hw.vj)
    exact aqc
   case Pn=>
    (have h1:=hw.vj)
    (refine su hw.rj (hw.bs.yu hw.rj) ?_;co_evs (exact⟨_,rfl,rfl⟩))
   try walk_nrm)
  (co_applyP rE T hSR hQR (i:=2) rfl ag ag ag ag ag (.inl ⟨ax,λ_ hw=>⟨run_eq_of ?Wp,?Po⟩⟩) hF ?adV
   case Wp=>
    intro Kq hKq
    (have h1:=hw.vk)
    exact aqc
   case Po=>
    (have h1:=hw.vk)
    (refine su hw.rk (hw.bs.yu hw.rk) ?_;co_evs (exact⟨_,rfl,rfl⟩))
   try walk_nrm)
  (co_applyP rE T hSR hQR (i:=3) rfl ag ag ag ag ag (.inl ⟨ax,λ_ hw=>⟨run_eq_of ?Wq,?Pq⟩⟩) hF ?adW
   case Wq=>
    intro Kq hKq
    (have h1:=hw.vj)
    exact aqc
   case Pq=>
    (have h1:=hw.vj)
    (refine su hw.rj (hw.bs.yu hw.rj) ?_;co_evs (exact⟨_,rfl,rfl⟩))
   try walk_nrm)
  (co_applyP rE T hSR hQR (i:=5) rfl ag ag ag ag ag (.inl ⟨ax,λ_ hw=>⟨run_eq_of ?adX,?Y8⟩⟩) hF ?ai0
   case adX=>
    intro Kq hKq
    (have h1:=hw.vd)
    exact aqc
   case Y8=>
    (have h1:=hw.vd)
    (refine su hw.rd (hw.bs.yu hw.rd) ?_;co_evs (exact⟨_,rfl,rfl⟩))
   try walk_nrm)
  refine DF (i:=4) ag ⟨_,rfl,.inr (.inl ⟨ax,_,_,_,(λv w'=>∃N,v=.slice (some ⟨N,0,none⟩) k k/\CG Wg C n B (· =idx) w2 N ((List.range k).map (sQ k idx)) w'),rfl,by walk_nrm;exact SV (hq1 w2 hF.bs) (nG _ _),?_⟩)⟩;rintro v w3 ⟨N1,rfl,hg1⟩;replace hF:=hF.ex hg1.bs hg1.ex;refine⟨λ_=>hF,?_⟩;walk_nrm;refine DF (i:=6) ag ⟨_,rfl,.inr (.inl ⟨ax,_,_,_,(λv w'=>∃N,v=.slice (some ⟨N,0,none⟩) L L/\CG Wg C n B (· =idx) w3 N (comb (BZ ((List.range k).map (sQ k idx)) cs) (List.replicate L 0)) w'),rfl,by walk_nrm;exact SV (hq2 w3 N1 0 k c.bD c.oD c.cD _ cs hlr hlc hrl hcs hF.bs (hF.cin hg1.mn hg1.hx)) (nD _ _),?_⟩)⟩;rintro v w' ⟨N,rfl,hg⟩;have hN:N≠C:=apW;replace hF:=hF.ex hg.bs hg.ex;have hwp:Q9 C L res idx (.slice (some ⟨N,0,none⟩) L L) w':=⟨N,rfl,hg.mn,hN,by rw[hres];exact hg.hx⟩;clear hg;refine⟨λ_=>hF,?_⟩;walk_nrm;refine zx (i:=7) ag rfl ax (λw₁ hR K hK=>?_);replace hF:=hF.rely hR;replace hwp:=hwp.rely hR;clear hR;go_simp;refine hK _ _ ⟨?_,λ_=>hF,?_⟩
  .co_still T
  clear hK K;walk_nrm;refine zx (i:=8) ag rfl ax (λw₁ hR K hK=>?_);replace hF:=hF.rely hR;replace hwp:=hwp.rely hR;clear hR
  obtain⟨u,hu1,hu2⟩:∃u,w₁.cell? ⟨C,idx,none⟩=some u/\w₁.frozen? ⟨C,idx,none⟩=false:=by exact ard
  go_simp
  try(unfold stored;go_simp)
  refine hK _ _ ⟨?_,λh=>absurd rfl h,?_⟩
  .refine UK (Cl:=(· =idx)) hF.pay hF.bs.hC (i:=idx) rfl _ ?_
   co_evs (exact⟨_,rfl⟩)
  clear hK K;walk_nrm;refine Hf ag ⟨rfl,rfl,.slice (some ⟨N,0,none⟩) L L,⟨N,rfl,?_,hN,?_⟩,Pv hF.pay hidx _⟩ _
  .exact arp
  .exact ars
 .rintro e a' w' ⟨rfl,hd,v,hk⟩;show Goes _ _ _ _ _ 3 (G (w0C.at a' []) [JE]) w';refine ay rfl λw₁ h₁=>?_
  replace hk:=hk.rely h₁;clear h₁;rw[stepG_end];refine⟨T.idle _,?_⟩;refine ay rfl λw₁ h₁=>?_
  replace hk:=hk.rely h₁;clear h₁;rw[stepG_unwind_enter hd Tryz.func50 (nm_done link) rfl];refine⟨T.idle _,?_⟩;refine bI λw₁ h₁=>?_
  replace hk:=hk.rely h₁;clear h₁;refine⟨rfl,v,hk.wp,hk.has,λW h1 h2=>?_⟩;have hA:=@doneN _ link Tryz.prog wgLib VR VR Wg C n 0 (idx+1) v;have:=hA (c:={w0C.at ⟨a'.tmps,[]⟩ []with mode:=.returning}) (cs:=[JE]) (qt:=2) rfl (adS a'.tmps) W ⟨h1,iT⟩;exact this
