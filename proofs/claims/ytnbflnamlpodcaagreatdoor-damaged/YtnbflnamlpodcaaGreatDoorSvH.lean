import Derived.Test.YtnbflnamlpodcaaGreatDoorGjB
import Derived.Deep.WholeRow
import Derived.Deep.RegionHeld3
set_option maxHeartbeats 4000000
set_option maxRecDepth 100000
namespace Go.Proofs.Y
open Go.Proofs.Tryz
open Go.RowKit Go.Deep
structure BX(S:Nat->Prop)(w w':World):Prop where
 os:w'.os=w.os
 tape:w'.tape=w.tape
 output:w'.output=w.output
 size:w.heap.size<=w'.heap.size
 block:∀k,k<w.heap.size->¬S k->w'.heap[k]?=w.heap[k]?
theorem BX.refl(S:Nat->Prop)(w:World):BX S w w:=⟨rfl,rfl,rfl,ak _,λ_ _ _=>rfl⟩
theorem BX.below{S:Nat->Prop}{w w':World}(h:Below w.heap.size w w'):BX S w w':=⟨h.os,h.tape,h.output,h.size,λk hk _=>h.block k hk⟩
theorem BX.trans{S S':Nat->Prop}{w w' w'':World}(h:BX S w w')(h':BX S' w' w'')(hs:∀k,k<w.heap.size->S' k->S k):BX S w w'':=
 ⟨h'.os.trans h.os,h'.tape.trans h.tape,h'.output.trans h.output,aJ h.size h'.size,λk hk hn=>(h'.block k (aK hk h.size) λx=>hn (hs k hk x)).trans (h.block k hk hn)⟩
theorem BX.mono{S S':Nat->Prop}{w w':World}(h:BX S w w')(hs:∀k,S k->S' k):BX S' w w':=⟨h.os,h.tape,h.output,h.size,λk hk hn=>h.block k hk λx=>hn (hs k x)⟩
theorem BX.set{S:Nat->Prop}{w w':World}(h:BX S w w'){a:Addr}(ha:S a.block\/w.heap.size<=a.block)(v:Value):BX S w (w'.setCell a v):=
 ⟨h.os,h.tape,h.output,aut,λk hk hn=>(jI w' a k v (by rcases ha with x|x;exact λe=>hn (e▸x);omega)).trans (h.block k hk hn)⟩
theorem BX.alloc{S:Nat->Prop}{w w':World}(h:BX S w w')(o:Obj):BX S w (w'.alloc o):=h.trans (S':=λ_=>False) (.below ((aA _ _).alloc (ak _) _)) (λ_ _ x=>x.elim)
theorem BX.drew{S:Nat->Prop}{w w':World}(h:BX S w w'):BX S w w'.drew:=⟨h.os,h.tape,h.output,h.size,h.block⟩
theorem BX.row{S:Nat->Prop}{w w':World}(h:BX S w w'){b n:Nat}{t:TypeId}{f:Nat->Value}(hb:b<w.heap.size)(hn:¬S b)(hr:w.rowIs b t n f):w'.rowIs b t n f:=hr.of_block (h.block b hb hn)
def fv(a:Nat->F)(j:Nat):Value:=.int .u8 ((a j).val:Int)
theorem afm{T:Array Value}(hT:T.size=256)(h1:∀v∈T,v.oneCell'=true)(w:World):(storeCells ⟨w.heap.size,0,none⟩ T.toList).run prog (w.alloc (.cells Tryz.zeroCells209 209))=.ok () (w.alloc (.cells T 209)):=by rw[Om (dO _ _) (by rw[D6 0];exact uF 0 0) hT h1,World.setRow_alloc_new]
theorem Yk(b k cap:Nat)(a:Nat->F)(f:F)(w:World)(hk:k<=128)(hr:w.rowIs b 5 k (fv a))(hb:b<w.heap.size):
  Calls prog 126 #[.slice (some ⟨b,0,none⟩) k cap,.int .u8 (f.val:Int)] w λe w'=>e=.returned (.tuple #[])/\w'.rowIs b 5 k (fv (F.scaled f a))/\BX (· =b) w w':=by
 have hpr:=Oo f.val f.isLt;have sJ:=afm (uF f.val 256) (I7 f.val 256);have Lh:∀x,x<256->(zH f.val 256)[x]?=some (.int .u8 ((mul x f.val:Nat):Int)):=λx hx=>by rw[BU _ _ _ hx,aj hx]
 have hsz:=uF f.val 256;generalize zH f.val 256=T at hpr sJ Lh hsz;have hfv:∀j,(F.scaled f a j).val=mul (a j).val f.val:=λ_=>rfl
 generalize Nr:f.val=fn at hpr Lh hfv⊢;clear Nr;go_enter func126,ntmps126
 go_wp2_with(first|(go_at_call 118;(with_reducible refine(hpr _).mono ?_);rintro e w1 ⟨rfl,t_⟩;have akY:=sJ w1))
 have L9:BX (· =b) w (w1.alloc (.cells T 209)):=(BX.below t_).alloc _;have htab:(w1.alloc (.cells T 209)).heap[w1.heap.size]?=some (.cells T 209):=dO _ _;have hbn:b<w1.heap.size:=aK hb t_.size;have xW:(w1.alloc (.cells T 209)).rowIs b 5 k (fv a):=(hr.of_block (t_.block b hb)).alloc _;have hwn:=t_.size;generalize w1.heap.size=N at*;generalize w1.alloc (.cells T 209)=w2 at L9 htab xW⊢;clear sJ akY t_ hpr
 go_loopw [11] (λvj wr=>∃c:Nat,c<=k/\vj=.int .i64 (c:Int)/\wr.rowIs b 5 k (λj=>if j<c then fv (F.scaled f a) j else fv a j)/\BX (· =b) w wr/\wr.heap[N]?=some (.cells T 209)) (λj _=>k-(intOf j).toNat)
 case atStart=>exact⟨0,ae,rfl,xW.congr (λj _=>fV),L9,htab⟩
 case round=>
  clear xW L9 htab;obtain⟨c,hc,rfl,hR,hO,hT⟩:=hrel;by_cases qE:c<k
  .have Ag:(c:Int)<(k:Int):=ae
   have c1:wr.cell? ⟨b,c,none⟩=some (.int .u8 ((a c).val:Int)):=by have:=hR.cell qE;exact awG
   have fz:=hR.frozen c;have hax:=(a c).isLt;have c2:wr.cell? ⟨N,(a c).val,none⟩=some (.int .u8 ((mul (a c).val fn:Nat):Int)):=by rw[cell_of _ hT,Lh _ hax]
   have Fh:=hR.set c (.int .u8 ((mul (a c).val fn:Nat):Int))
   have XH:(wr.setCell ⟨b,c,none⟩ (.int .u8 ((mul (a c).val fn:Nat):Int))).rowIs b 5 k (λj=>if j<c+1 then fv (F.scaled f a) j else fv a j):=Fh.congr λj _=>by
    by_cases e:j=c
    .subst e;rw[aj rfl,aj ae,fv,hfv]
    .rw[ah e];by_cases h:j<c
     .rw[aj h,aj ae]
     .rw[ah h,ah ae]
   have ND:=hO.set (a:=⟨b,c,none⟩) (.inl rfl) (.int .u8 ((mul (a c).val fn:Nat):Int));have VT:=(jI wr ⟨b,c,none⟩ N (.int .u8 ((mul (a c).val fn:Nat):Int)) (by show N≠b;omega)).trans hT;clear Fh Lh hfv;generalize mul (a c).val fn=q at*;generalize(a c).val=x at*;go_wp2
   go_roundw
   case rel=>exact⟨c+1,ae,aW,XH,ND,VT⟩
   case measure=>simp[intOf];omega
  .obtain rfl:c=k:=ae;have GH:¬((c:Int)<(c:Int)):=ae;go_wp2;go_end0;exact⟨rfl,hR.congr λj hj=>auQ,hO⟩
theorem aeg(a q:Nat->F):F.added 0 a q=a:=by
 funext j
 rw[F.added,F.EX,F.add_zero]
theorem OZ(b b2 k cap La:Nat)(a a2:Nat->F)(f:F)(w:World)(hk:k<=128)(hr:w.rowIs b 5 k (fv a))(Gy:w.rowIs b2 5 k (fv a2))(hb:b<w.heap.size)(sZ:b2<w.heap.size)(hne:b2≠b):
  Calls prog 91 #[.slice (some ⟨b,0,none⟩) k cap,.int .u8 (f.val:Int),.slice (some ⟨b2,0,none⟩) k La] w λe w'=>e=.returned (.tuple #[])/\w'.rowIs b 5 k (fv (F.added f a a2))/\BX (· =b) w w':=by
 by_cases hz:f=0
 .subst hz;rw[aeg,show((0:F).val:Int)=0 from rfl];go_enter func91,ntmps91;go_wp2;refine gu (results_none rfl _ _ _) rfl ?_;exact⟨rfl,hr,BX.refl _ _⟩
 have hpr:=Oo f.val f.isLt;have sJ:=afm (uF f.val 256) (I7 f.val 256);have Lh:∀x,x<256->(zH f.val 256)[x]?=some (.int .u8 ((mul x f.val:Nat):Int)):=λx hx=>by rw[BU _ _ _ hx,aj hx]
 have hsz:=uF f.val 256;generalize zH f.val 256=T at hpr sJ Lh hsz;have hfv:∀j,(F.added f a a2 j).val=(a j).val^^^mul (a2 j).val f.val:=λ_=>rfl
 have hz':((f.val:Int)==0)=false:=by simp only[nC,ne_eq];intro e;exact hz (d_ (by show f.val=0;omega))
 have hml:∀j,mul (a2 j).val f.val<256:=λj=>mul_lt (a2 j).isLt
 generalize Nr:f.val=fn at hpr Lh hfv hz' hml⊢;clear Nr;go_enter func91,ntmps91
 go_wp2_with(first|(go_at_call 118;(with_reducible refine(hpr _).mono ?_);rintro e w1 ⟨rfl,t_⟩;have akY:=sJ w1))
 have L9:BX (· =b) w (w1.alloc (.cells T 209)):=(BX.below t_).alloc _;have htab:(w1.alloc (.cells T 209)).heap[w1.heap.size]?=some (.cells T 209):=dO _ _;have hbn:b<w1.heap.size:=aK hb t_.size;have atC:b2<w1.heap.size:=aK sZ t_.size;have xW:(w1.alloc (.cells T 209)).rowIs b 5 k (fv a):=(hr.of_block (t_.block b hb)).alloc _;have hwn:=t_.size;generalize w1.heap.size=N at*;generalize w1.alloc (.cells T 209)=w2 at L9 htab xW⊢;clear sJ akY t_ hpr
 go_loopw [15] (λvj wr=>∃c:Nat,c<=k/\vj=.int .i64 (c:Int)/\wr.rowIs b 5 k (λj=>if j<c then fv (F.added f a a2) j else fv a j)/\BX (· =b) w wr/\wr.heap[N]?=some (.cells T 209)) (λj _=>k-(intOf j).toNat)
 case atStart=>exact⟨0,ae,rfl,xW.congr (λj _=>fV),L9,htab⟩
 case round=>
  clear xW L9 htab;obtain⟨c,hc,rfl,hR,hO,hT⟩:=hrel;by_cases qE:c<k
  .have Ag:(c:Int)<(k:Int):=ae
   have c1:wr.cell? ⟨b,c,none⟩=some (.int .u8 ((a c).val:Int)):=by have:=hR.cell qE;exact awG
   have fz:=hR.frozen c;have hax:=(a c).isLt;have asi:=(a2 c).isLt;have c3:wr.cell? ⟨b2,c,none⟩=some (.int .u8 ((a2 c).val:Int)):=(hO.row sZ hne Gy).cell qE;have c2:wr.cell? ⟨N,(a2 c).val,none⟩=some (.int .u8 ((mul (a2 c).val fn:Nat):Int)):=by rw[cell_of _ hT,Lh _ asi]
   have asj:=hml c;have hx:=u8_xor_nat _ _ hax asj;have Fh:=hR.set c (.int .u8 (((a c).val^^^mul (a2 c).val fn:Nat):Int))
   have XH:(wr.setCell ⟨b,c,none⟩ (.int .u8 (((a c).val^^^mul (a2 c).val fn:Nat):Int))).rowIs b 5 k (λj=>if j<c+1 then fv (F.added f a a2) j else fv a j):=Fh.congr λj _=>by
    by_cases e:j=c
    .subst e;rw[aj rfl,aj ae,fv,hfv]
    .rw[ah e];by_cases h:j<c
     .rw[aj h,aj ae]
     .rw[ah h,ah ae]
   have ND:=hO.set (a:=⟨b,c,none⟩) (.inl rfl) (.int .u8 (((a c).val^^^mul (a2 c).val fn:Nat):Int));have VT:=(jI wr ⟨b,c,none⟩ N (.int .u8 (((a c).val^^^mul (a2 c).val fn:Nat):Int)) (by show N≠b;omega)).trans hT;clear Fh Lh hfv hml;generalize(a c).val^^^mul (a2 c).val fn=r at*;generalize mul (a2 c).val fn=q at*;generalize(a c).val=x at*;generalize(a2 c).val=x2 at*;go_wp2;go_region;have hR4:=XH.drew;have hO4:=ND.drew;have hT4:(wr.setCell ⟨b,c,none⟩ (.int .u8 (r:Int))).drew.heap[N]?=some (.cells T 209):=VT;generalize(wr.setCell ⟨b,c,none⟩ (.int .u8 (r:Int))).drew=wz at hR4 hO4 hT4⊢;clear XH ND VT;go_wp2
   go_roundw
   case rel=>exact⟨c+1,ae,aW,hR4,hO4,hT4⟩
   case measure=>simp[intOf];omega
  .obtain rfl:c=k:=ae;have GH:¬((c:Int)<(c:Int)):=ae;go_wp2;go_end0;exact⟨rfl,hR.congr λj hj=>auQ,hO⟩
structure FQ(w:World)(h k:Nat)(bl:Nat->Nat)(A:Nat->Nat->F):Prop where
 head:w.rowIs h 34 k (λi=>.slice (some ⟨bl i,0,none⟩) k k)
 rows:∀i,i<k->w.rowIs (bl i) 5 k (fv (A i))
 inj:∀i j,i<k->j<k->i≠j->bl i≠bl j
 sep:∀i,i<k->bl i≠h
theorem FQ.congr{w:World}{h k:Nat}{bl:Nat->Nat}{A A':Nat->Nat->F}(m:FQ w h k bl A)(e:∀i j,i<k->j<k->A i j=A' i j):FQ w h k bl A':=
 ⟨m.head,λi hi=>(m.rows i hi).congr λj hj=>by simp only[fv,e i j hi hj],m.inj,m.sep⟩
theorem FQ.heap{w w':World}{h k:Nat}{bl:Nat->Nat}{A:Nat->Nat->F}(m:FQ w h k bl A)(e:w'.heap=w.heap):FQ w' h k bl A:=
 ⟨m.head.of_block jU,λi hi=>(m.rows i hi).of_block jU,m.inj,m.sep⟩
theorem FQ.turn{w w':World}{h k c:Nat}{bl:Nat->Nat}{A:Nat->Nat->F}{r:Nat->F}(m:FQ w h k bl A)(hc:c<k)(ho:BX (· =bl c) w w')(hr:w'.rowIs (bl c) 5 k (fv r)):FQ w' h k bl (λi=>if i=c then r else A i):=by
 refine⟨ho.row m.head.lt (λe=>m.sep c hc e.symm) m.head,λi hi=>?_,m.inj,m.sep⟩;by_cases e:i=c
 .subst e;simp only[aF];exact hr
 .simp only[ah e];exact ho.row (m.rows i hi).lt (λx=>m.inj i c hi hc e x) (m.rows i hi)
theorem FQ.Z9{w w':World}{h k:Nat}{bl:Nat->Nat}{A:Nat->Nat->F}{S:Nat->Prop}(m:FQ w h k bl A)(ho:BX S w w')(hh:¬S h)(hb:∀i,i<k->¬S (bl i)):FQ w' h k bl A:=
 ⟨ho.row m.head.lt hh m.head,λi hi=>ho.row (m.rows i hi).lt (hb i hi) (m.rows i hi),m.inj,m.sep⟩
structure Apart(k h1 h2:Nat)(b1 b2:Nat->Nat):Prop where
 rr:∀i j,i<k->j<k->b1 i≠b2 j
 hr:∀i,i<k->h1≠b2 i/\h2≠b1 i
 hh:h1≠h2
def Pj(A X:Nat->Nat->F)(t c i:Nat):Nat->F:=if i<c/\i≠t then F.added (A i t) (X i) (X t)else X i
theorem acb(A X:Nat->Nat->F)(t:Nat):Pj A X t 0=X:=by
 funext i
 rw[Pj,ah ae]
theorem anb(A X:Nat->Nat->F)(t c:Nat):Pj A X t c t=X t:=by rw[Pj,ah ae]
theorem akl(A X:Nat->Nat->F)(t c:Nat):Pj A X t c c=X c:=by rw[Pj,ah ae]
theorem akm(A X:Nat->Nat->F)(t:Nat):Pj A X t (t+1)=Pj A X t t:=by
 funext i
 unfold Pj;by_cases h:i<t
 .rw[aj ae,aj ae]
 .rw[ah ae,ah ae]
theorem acd(A X:Nat->Nat->F){t c:Nat}(h:c≠t):(λi=>if i=c then F.added (A c t) (X c) (X t)else Pj A X t c i)=Pj A X t (c+1):=by
 funext i
 unfold Pj;by_cases e:i=c
 .subst e;rw[aj rfl,aj ae]
 .rw[ah e];by_cases h1:i<c/\i≠t
  .rw[aj h1,aj ae]
  .rw[ah h1,ah ae]
def JP(k:Nat)(b1 b2:Nat->Nat)(x:Nat):Prop:=∃i,i<k/\(x=b1 i\/x=b2 i)
theorem Vw(k h1 h2 t:Nat)(b1 b2:Nat->Nat)(A B:Nat->Nat->F)(w:World)(hk:k<=128)(ht:t<k)(hA:FQ w h1 k b1 A)(hB:FQ w h2 k b2 B)(hap:Apart k h1 h2 b1 b2):
  Calls prog 127 #[.slice (some ⟨h1,0,none⟩) k k,.slice (some ⟨h2,0,none⟩) k k,.int .i64 (t:Int)] w λe w'=>e=.returned (.tuple #[])/\FQ w' h1 k b1 (Pj A A t k)/\FQ w' h2 k b2 (Pj A B t k)/\BX (JP k b1 b2) w w':=by
 go_enter func127,ntmps127;go_wp2
 go_loopw [10] (λvi wr=>∃c:Nat,c<=k/\vi=.int .i64 (c:Int)/\FQ wr h1 k b1 (Pj A A t c)/\FQ wr h2 k b2 (Pj A B t c)/\BX (JP k b1 b2) w wr) (λi _=>k-(intOf i).toNat)
 case atStart=>exact⟨0,ae,rfl,by rw[acb];exact hA,by rw[acb];exact hB,BX.refl _ _⟩
 case round=>
  clear hA hB;obtain⟨c,hc,rfl,hA,hB,hO⟩:=hrel;by_cases qE:c<k
  .have Ag:(c:Int)<(k:Int):=ae;by_cases A7:c=t
   .subst A7;have Nv:=hA;have Ae:=hB;rw[<-akm]at Nv Ae;clear hA hB;go_wp2
    go_roundw
    case rel=>exact⟨c+1,ae,aW,Nv,Ae,hO⟩
    case measure=>simp[intOf];omega
   .have atD:((c:Int)==(t:Int))=false:=az;have g1:wr.cell? ⟨h1,c,none⟩=some (.slice (some ⟨b1 c,0,none⟩) k k):=hA.head.cell qE;have g2:wr.cell? ⟨h1,t,none⟩=some (.slice (some ⟨b1 t,0,none⟩) k k):=hA.head.cell ht;have g3:wr.cell? ⟨h2,c,none⟩=some (.slice (some ⟨b2 c,0,none⟩) k k):=hB.head.cell qE;have g4:wr.cell? ⟨h2,t,none⟩=some (.slice (some ⟨b2 t,0,none⟩) k k):=hB.head.cell ht
    have g5:wr.cell? ⟨b1 c,t,none⟩=some (.int .u8 ((A c t).val:Int)):=by have:=(hA.rows c qE).cell ht;rw[akl]at this;exact this
    have r1:=hA.rows c qE;have r2:=hA.rows t ht;have r3:=hB.rows c qE;have r4:=hB.rows t ht;rw[akl]at r1 r3;rw[anb]at r2 r4
    have K1:∀w0:World,w0.heap=wr.heap->w0.os=wr.os->w0.tape=wr.tape->w0.output=wr.output->Calls prog 91 #[.slice (some ⟨b1 c,0,none⟩) k k,.int .u8 ((A c t).val:Int),.slice (some ⟨b1 t,0,none⟩) k k] w0 λe w'=>e=.returned (.tuple #[])/\FQ w' h1 k b1 (Pj A A t (c+1))/\FQ w' h2 k b2 (Pj A B t c)/\BX (JP k b1 b2) w w'/\(w'.cell? ⟨h1,c,none⟩=some (.slice (some ⟨b1 c,0,none⟩) k k)/\w'.cell? ⟨h1,t,none⟩=some (.slice (some ⟨b1 t,0,none⟩) k k)/\w'.cell? ⟨h2,c,none⟩=some (.slice (some ⟨b2 c,0,none⟩) k k)/\w'.cell? ⟨h2,t,none⟩=some (.slice (some ⟨b2 t,0,none⟩) k k)):=λw0 e e1 e2 e3=>by
     have m1:=hA.heap e;have m2:=hB.heap e;refine(OZ (b1 c) (b1 t) k k k (A c) (A t) (A c t) w0 hk (r1.of_block jU) (r2.of_block jU) (by rw[e];exact r1.lt) (by rw[e];exact r2.lt) (hA.inj t c ht qE (λe=>A7 e.symm))).mono ?_;rintro q w' ⟨rfl,h,ho⟩;have n1:=m1.turn qE ho h;rw[acd A A A7]at n1;have n2:=m2.Z9 ho (λx=>(hap.hr c qE).2 x) (λi hi x=>hap.rr c i qE hi x.symm);refine⟨rfl,n1,n2,?_,n1.head.cell qE,n1.head.cell ht,n2.head.cell qE,n2.head.cell ht⟩
     .exact(BX.mk (S:=JP k b1 b2) (e1.trans hO.os) (e2.trans hO.tape) (e3.trans hO.output) (by rw[e];exact hO.size) (λj hj hn=>avW)).trans ho λj _ x=>⟨c,qE,.inl x⟩
    have K2:∀w0 w1:World,w0.heap=w1.heap->w0.os=w1.os->w0.tape=w1.tape->w0.output=w1.output->FQ w1 h1 k b1 (Pj A A t (c+1))->FQ w1 h2 k b2 (Pj A B t c)->BX (JP k b1 b2) w w1->Calls prog 91 #[.slice (some ⟨b2 c,0,none⟩) k k,.int .u8 ((A c t).val:Int),.slice (some ⟨b2 t,0,none⟩) k k] w0 λe w'=>e=.returned (.tuple #[])/\FQ w' h1 k b1 (Pj A A t (c+1))/\FQ w' h2 k b2 (Pj A B t (c+1))/\BX (JP k b1 b2) w w'/\(w'.cell? ⟨h1,c,none⟩=some (.slice (some ⟨b1 c,0,none⟩) k k)/\w'.cell? ⟨h1,t,none⟩=some (.slice (some ⟨b1 t,0,none⟩) k k)/\w'.cell? ⟨h2,c,none⟩=some (.slice (some ⟨b2 c,0,none⟩) k k)/\w'.cell? ⟨h2,t,none⟩=some (.slice (some ⟨b2 t,0,none⟩) k k)):=λw0 w1 e e1 e2 e3 hA hB hO=>by
     have m1:=hA.heap e;have m2:=hB.heap e;have r3:=m2.rows c qE;have r4:=m2.rows t ht;rw[akl]at r3;rw[anb]at r4;refine(OZ (b2 c) (b2 t) k k k (B c) (B t) (A c t) w0 hk r3 r4 r3.lt r4.lt (hB.inj t c ht qE (λe=>A7 e.symm))).mono ?_;rintro q w' ⟨rfl,h,ho⟩;have n1:=m2.turn qE ho h;rw[acd A B A7]at n1;have n2:=m1.Z9 ho (λx=>(hap.hr c qE).1 x) (λi hi x=>hap.rr i c hi qE x);refine⟨rfl,n2,n1,?_,n2.head.cell qE,n2.head.cell ht,n1.head.cell qE,n1.head.cell ht⟩
     .exact(BX.mk (S:=JP k b1 b2) (e1.trans hO.os) (e2.trans hO.tape) (e3.trans hO.output) (by rw[e];exact hO.size) (λj hj hn=>avW)).trans ho λj _ x=>⟨c,qE,.inr x⟩
    clear r1 r2 r3 r4 hA hB;generalize(A c t).val=fac at*;generalize b1 c=b1c at*;generalize b1 t=b1t at*;generalize b2 c=b2c at*;generalize b2 t=b2t at*;go_wp2
    go_region_held3 (λw'=>w'.cell? ⟨h1,c,none⟩=some (.slice (some ⟨b1c,0,none⟩) k k)/\w'.cell? ⟨h1,t,none⟩=some (.slice (some ⟨b1t,0,none⟩) k k)) (go_keep)
     ((first
       |(go_at_call 91;refine(K1 _ ax ax ax ax).mono ?_;rintro q w2 ⟨rfl,Nv,Ae,ND,d1,d2,d3,d4⟩)))
    have K3:=λw0 e e1 e2 e3=>K2 w0 w2 e e1 e2 e3 Nv Ae ND
    clear K1 K2 Nv Ae ND;go_wp2
    go_region_held3 (λw'=>w'.cell? ⟨h2,c,none⟩=some (.slice (some ⟨b2c,0,none⟩) k k)/\w'.cell? ⟨h2,t,none⟩=some (.slice (some ⟨b2t,0,none⟩) k k)) (go_keep)
     ((first
       |(go_at_call 91;refine(K3 _ ax ax ax ax).mono ?_;rintro q w3 ⟨rfl,Nv,Ae,ND,d1,d2,d3,d4⟩)))
    have Px:FQ w3 h1 k b1 (Pj A A t (c+1)):=fZ;have Ny:FQ w3 h2 k b2 (Pj A B t (c+1)):=fZ;have hO3:BX (JP k b1 b2) w w3:=fZ;go_wp2
    go_roundw
    case rel=>exact⟨c+1,ae,aW,Px,Ny,hO3⟩
    case measure=>simp[intOf];omega
  .obtain rfl:c=k:=ae;have GH:¬((c:Int)<(c:Int)):=ae;go_wp2;go_end0;exact⟨rfl,hA,hB,hO⟩
theorem akn(k i j:Nat)(hi:i<k):((if j=i then(1:F)else 0).val:Nat)=uj k i j:=by unfold uj;rw[aj hi];split<;>rfl
theorem ace{w w':World}{k:Nat}(h:Hg w w' k k k (uj k)):FQ w' w.heap.size k (λi=>w.heap.size+1+i) (λi j=>if j=i then 1 else 0):=
 ⟨h.head.congr λi hi=>by unfold abb;rw[aj hi],λi hi=>(h.rows i hi).congr λj hj=>by simp only[fv];rw[akn k i j hi],λi j _ _ hne=>ae,λi hi=>ae⟩
def amH(k:Nat)(b1:Nat->Nat)(M:Nat->Nat->F)(w:World)(e:Ending)(w':World):Prop:=
 ∃h2 b2 A B,e=.returned (.slice (some ⟨h2,0,none⟩) k k)/\FQ w' h2 k b2 B/\F.Gj k M k A B/\BX (λx=>∃i,i<k/\x=b1 i) w w'/\w.heap.size<=h2/\∀i,i<k->w.heap.size<=b2 i
def WZ(A:Nat->Nat->F)(t:Nat)(r:Nat->F)(i:Nat):Nat->F:=if i=t then r else A i
theorem apd(A:Nat->Nat->F)(t k:Nat){i:Nat}(hi:i<k):Pj (WZ A t (F.scaled (F.iv (A t t)) (A t))) (WZ A t (F.scaled (F.iv (A t t)) (A t))) t k i=F.LD A t i:=by
 unfold Pj F.LD WZ;by_cases e:i=t
 .rw[ah ae,aj e,aj e]
 .rw[aj ⟨hi,e⟩,ah e,aj rfl,ah e]
theorem ape(A B:Nat->Nat->F)(t k:Nat){i:Nat}(hi:i<k):Pj (WZ A t (F.scaled (F.iv (A t t)) (A t))) (WZ B t (F.scaled (F.iv (A t t)) (B t))) t k i=F.LG A B t i:=by
 unfold Pj F.LG WZ;by_cases e:i=t
 .rw[ah ae,aj e,aj e]
 .rw[aj ⟨hi,e⟩,ah e,ah e,ah e,aj rfl]
theorem aaz(k h1:Nat)(b1:Nat->Nat)(M:Nat->Nat->F)(px:Nat->F)(w:World)(hk:k<=128)(hM:FQ w h1 k b1 M)(hS:F.Sq k px M):
  Calls prog 109 #[.slice (some ⟨h1,0,none⟩) k k] w λe w'=>amH k b1 M w e w':=by
 obtain⟨w1,hmk,h0⟩:=Wp k k hk (uj k) w;go_enter func109,ntmps109;go_wp2;clear hmk
 go_loopw [12] (λvi wr=>∃c:Nat,c<=k/\vi=.int .i64 (c:Int)/\Hg w wr k k c (uj k)) (λi _=>k-(intOf i).toNat)
 case atStart=>exact⟨0,ae,rfl,h0⟩
 case round=>
  obtain⟨c,hc,rfl,hN⟩:=hrel;clear h0;by_cases qE:c<k
  .have hz:=hN.size;have Ag:(c:Int)<(k:Int):=ae
   have hcell:∀w',zK wr w' k (uj k c)->w'.cell? ⟨w.heap.size,c,none⟩=some (.slice none 0 0)/\w'.frozen? ⟨w.heap.size,c,none⟩=false:=λw' h=>by have hr:=hN.head.of_block (h.below.block w.heap.size ae);refine⟨?_,hr.frozen c⟩;have:=hr.cell qE;rw[this];unfold abb;rw[ah ae]
   have HZ:Hid (wr.heap.size=w.heap.size+1+c):=hz;clear hz
   go_wp2_with(first|(go_at_call 92;refine(QX _ _ hk qE _).mono ?_;rintro e w2 ⟨rfl,h2⟩;obtain⟨VD,hf2⟩:=hcell _ h2;have h3:=hN.step h2;clear h2))
   go_roundw
   case rel=>exact⟨c+1,ae,aW,h3⟩
   case measure=>simp[intOf];omega
  .obtain rfl:c=k:=ae;have GH:¬((c:Int)<(c:Int)):=ae;have NF:=ace hN;have hA0:FQ wr h1 c b1 M:=hM.Z9 (S:=λ_=>False) (BX.below hN.below) (λx=>x) (λ_ _ x=>x);have t_:∀i,i<c->b1 i<w.heap.size:=λi hi=>(hM.rows i hi).lt
   have hh1:h1<w.heap.size:=hM.head.lt;have hap:Apart c h1 w.heap.size b1 (λi=>w.heap.size+1+i):=⟨λi j hi hj=>by have:=t_ i hi;omega,λi hi=>⟨ae,by have:=t_ i hi;omega⟩,ae⟩;have hO0:BX (λx=>∃i,i<c/\x=b1 i) w wr:=BX.below hN.below;have hsz:=hN.size;go_wp2;clear hM hN;generalize hNN:w.heap.size=N at*;generalize ZT:(λi=>N+1+i)=b2 at*;have sZ:∀i,N<=b2 i:=λi=>by rw[<-ZT];show N<=N+1+i;omega
   clear ZT
   go_loopw [25] (λvi wr=>∃t:Nat,t<=c/\vi=.int .i64 (t:Int)/\∃A B,FQ wr h1 c b1 A/\FQ wr N c b2 B/\F.Gj c M t A B/\BX (λx=>∃i,i<c/\x=b1 i) w wr) (λi _=>c-(intOf i).toNat)
   case atStart=>exact⟨0,ae,rfl,_,_,hA0,NF,F.ajp c M,hO0⟩
   case round=>
    clear hA0 NF hO0;obtain⟨t,ht,rfl,A,B,hA,hB,hG,hO⟩:=hrel;by_cases qE:t<c
    .have Ag:(t:Int)<(c:Int):=ae;have hG2:=F.amc hS hG qE;have g1:wr.cell? ⟨h1,t,none⟩=some (.slice (some ⟨b1 t,0,none⟩) c c):=hA.head.cell qE;have g5:wr.cell? ⟨b1 t,t,none⟩=some (.int .u8 ((A t t).val:Int)):=(hA.rows t qE).cell qE;have K0:=aeC (A t t).val (A t t).isLt wr;have K1:=Yk (b1 t) c c (A t) (F.iv (A t t)) wr hk (hA.rows t qE) (hA.rows t qE).lt
     have K2:∀w2,w2.rowIs (b1 t) 5 c (fv (F.scaled (F.iv (A t t)) (A t)))->BX (· =b1 t) wr w2->w2.cell? ⟨N,t,none⟩=some (.slice (some ⟨b2 t,0,none⟩) c c)/\Calls prog 126 #[.slice (some ⟨b2 t,0,none⟩) c c,.int .u8 ((F.iv (A t t)).val:Int)] w2 λe w'=>e=.returned (.tuple #[])/\FQ w' h1 c b1 (WZ A t (F.scaled (F.iv (A t t)) (A t)))/\FQ w' N c b2 (WZ B t (F.scaled (F.iv (A t t)) (B t)))/\BX (JP c b1 b2) wr w':=λw2 hr ho=>by have m1:=hA.turn qE ho hr;have m2:=hB.Z9 ho (λx=>(hap.hr t qE).2 x) (λi hi x=>hap.rr t i qE hi x.symm);refine⟨m2.head.cell qE,(Yk (b2 t) c c (B t) (F.iv (A t t)) w2 hk (m2.rows t qE) (m2.rows t qE).lt).mono ?_⟩;rintro q w' ⟨rfl,h,ho2⟩;exact⟨rfl,m1.Z9 ho2 (λx=>(hap.hr t qE).1 x) (λi hi x=>hap.rr i t hi qE x),m2.turn qE ho2 h,(ho.mono (S':=JP c b1 b2) λx e=>⟨t,qE,.inl e⟩).trans ho2 λj _ x=>⟨t,qE,.inr x⟩⟩
     have K3:∀w2,FQ w2 h1 c b1 (WZ A t (F.scaled (F.iv (A t t)) (A t)))->FQ w2 N c b2 (WZ B t (F.scaled (F.iv (A t t)) (B t)))->BX (JP c b1 b2) wr w2->Calls prog 127 #[.slice (some ⟨h1,0,none⟩) c c,.slice (some ⟨N,0,none⟩) c c,.int .i64 (t:Int)] w2 λe w'=>e=.returned (.tuple #[])/\FQ w' h1 c b1 (F.LD A t)/\FQ w' N c b2 (F.LG A B t)/\BX (λx=>∃i,i<c/\x=b1 i) w w':=λw2 m1 m2 ho=>by
      refine(Vw c h1 N t b1 b2 _ _ w2 hk qE m1 m2 hap).mono ?_;rintro q w' ⟨rfl,n1,n2,ho2⟩;refine⟨rfl,n1.congr λi j hi _=>congrFun (apd A t c hi) j,n2.congr λi j hi _=>congrFun (ape A B t c hi) j,hO.trans (ho.trans ho2 λ_ _ x=>x) λx hx=>?_⟩;rintro⟨i,hi,e|e⟩
      .exact⟨i,hi,e⟩
      .have:=sZ i;omega
     clear hG hA hB;have eiv:(F.iv (A t t)).val=inv (A t t).val:=rfl;rw[eiv]at K1 K2;generalize inv (A t t).val=fac at*;generalize(A t t).val=xtt at*;generalize b1 t=b1t at*;generalize b2 t=b2t at*
     go_wp2_with(first
      |(go_at_call 93;(with_reducible refine K0.mono ?_);rintro e w' ⟨rfl,tH⟩;obtain rfl:=tH.symm)
      |(go_at_call 126;(with_reducible refine K1.mono ?_);rintro e w2 ⟨rfl,s1,s2⟩;obtain⟨g2,K2'⟩:=K2 w2 s1 s2)
      |(go_at_call 126;(with_reducible refine K2'.mono ?_);rintro e w3 ⟨rfl,s3,s4,s5⟩;have K3':=K3 w3 s3 s4 s5)
      |(go_at_call 127;(with_reducible refine K3'.mono ?_);rintro e w4 ⟨rfl,s6,s7,s8⟩))
     go_roundw
     case rel=>exact⟨t+1,ae,aW,_,_,s6,s7,hG2,s8⟩
     case measure=>simp[intOf];omega
    .obtain rfl:t=c:=ae;have GH:¬((t:Int)<(t:Int)):=ae;go_wp2;go_ret;exact⟨N,b2,A,B,rfl,hB,hG,hO,ae,λi _=>by rw[hNN];exact sZ i⟩
end Go.Proofs.Y
namespace Go.Proofs.Y
open Go.Proofs.Tryz
def e1:Option Nat->Nat
 |some _=>0
 |none=>1
def un(fl:Nat->Option Nat):Nat->Nat
 |0=>0
 |t+1=>un fl t+e1 (fl t)
theorem amI(t:Nat):un (λ_=>none) t=t:=by
 induction t with
 |zero=>rfl
 |succ t ih=>rw[un,ih];rfl
theorem ako(fl:Nat->Option Nat)(p i:Nat)(h:fl p=none):∀t,un (λx=>if x=p then some i else fl x) t+(if p<t then 1 else 0)=un fl t
 |0=>rfl
 |t+1=>by
  have ih:=ako fl p i h t;simp only[un];by_cases e:t=p
  .subst e;rw[ah ae]at ih;rw[aj rfl,aj ae,h];simp only[e1];omega
  .rw[ah e];by_cases e2:p<t
   .rw[aj e2]at ih;rw[aj ae];omega
   .rw[ah e2]at ih;rw[ah ae];omega
theorem akp(fl:Nat->Option Nat){a b:Nat}(h:a<=b):un fl a<=un fl b:=by
 induction b with
 |zero=>
  obtain rfl:a=0:=ae;exact ak _
 |succ b ih=>
  rcases aQ a (b+1)with h1|h1
  .exact aJ (ih ae) (by rw[un];omega)
  .obtain rfl:a=b+1:=ae;exact ak _
structure Pl(k:Nat)(ix:Nat->Nat)(c:Nat)(fl:Nat->Option Nat)(O:List Nat):Prop where
 fl1:∀t i,fl t=some i->i<c/\ix i=t/\t<k
 fl2:∀i,i<c->ix i<k->fl (ix i)=some i
 o1:∀(m i:Nat),O[m]?=some i->i<c/\k<=ix i
 o2:∀i,i<c->k<=ix i->∃m:Nat,O[m]?=some i
 o3:∀(m m' i:Nat),O[m]?=some i->O[m']?=some i->m=m'
 cnt:O.length+k=c+un fl k
theorem akq(k:Nat)(ix:Nat->Nat):Pl k ix 0 (λ_=>none) []:=
 ⟨λ_ _ h=>eP,λ_ h=>absurd h ae,λ_ _ h=>jR,λ_ h=>absurd h ae,λ_ _ _ h=>jR,by rw[amI];simp⟩
theorem Pl.own{k c:Nat}{ix:Nat->Nat}{fl:Nat->Option Nat}{O:List Nat}(h:Pl k ix c fl O)(hi:∀i,i<c->ix i≠ix c)(hc:ix c<k):fl (ix c)=none/\Pl k ix (c+1) (λx=>if x=ix c then some c else fl x) O:=by
 have hn:fl (ix c)=none:=by
  cases hf:fl (ix c)with
  |none=>rfl
  |some i=>
   obtain⟨h1,h2,_⟩:=h.fl1 _ _ hf;exact absurd h2 (hi i h1)
 refine⟨hn,λt i ht=>?_,λi hic VW=>?_,λm i hm=>?_,λi hic VW=>?_,h.o3,?_⟩
 .by_cases e:t=ix c
  .rw[aj e]at ht;cases ht;exact⟨ae,e.symm,ae⟩
  .rw[ah e]at ht;obtain⟨h1,h2,h3⟩:=h.fl1 t i ht;exact⟨ae,h2,h3⟩
 .by_cases e:i=c
  .subst e;rw[aj rfl]
  .rw[ah (hi i ae),h.fl2 i ae VW]
 .exact axY
 .have:i≠c:=by rintro rfl;omega
  exact h.o2 i ae VW
 .have h1:=ako fl (ix c) c hn k;rw[aj hc]at h1;have h2:=h.cnt;omega
theorem Pl.other{k c:Nat}{ix:Nat->Nat}{fl:Nat->Option Nat}{O:List Nat}(h:Pl k ix c fl O)(hc:k<=ix c):Pl k ix (c+1) fl (O++[c]):=by
 refine⟨λt i ht=>?_,λi hic VW=>?_,λm i hm=>?_,λi hic VW=>?_,λm m' i hm VB=>?_,?_⟩
 .obtain⟨h1,h2⟩:=h.fl1 t i ht;exact⟨ae,h2⟩
 .have:i≠c:=by rintro rfl;omega
  exact h.fl2 i ae VW
 .rw[aud]at hm;split at hm
  .exact axY
  .have:i=c:=by
    cases hmm:m-O.length with
    |zero=>rw[hmm]at hm;simp at hm;exact hm.symm
    |succ x=>rw[hmm]at hm;simp at hm
   subst this;exact⟨ae,hc⟩
 .by_cases e:i=c
  .subst e;exact⟨O.length,ai⟩
  .obtain⟨m,hm⟩:=h.o2 i ae VW;exact⟨m,by rw[aud,aj (dS.1 hm).1];exact hm⟩
 .have key:∀m:Nat,(O++[c])[m]?=some i->(m<O.length/\O[m]?=some i)\/(m=O.length/\i=c):=by
   intro m hm;rw[aud]at hm;split at hm
   .exact .inl ⟨fZ,hm⟩
   .refine .inr ?_;cases hmm:m-O.length with
    |zero=>rw[hmm]at hm;simp at hm;exact⟨ae,hm.symm⟩
    |succ x=>rw[hmm]at hm;simp at hm
  rcases key m hm with⟨h1,h2⟩|⟨h1,h2⟩<;>rcases key m' VB with⟨h3,h4⟩|⟨h3,h4⟩
  .exact h.o3 m m' i h2 h4
  .have:=(h.o1 m i h2).1;omega
  .have:=(h.o1 m' i h4).1;omega
  .omega
 .have:=h.cnt;simp;omega
def sg(fl:Nat->Option Nat)(O:List Nat)(t:Nat):Nat:=match fl t with
 |some i=>i
 |none=>O.getD (un fl t) 0
theorem Pl.room{k:Nat}{ix:Nat->Nat}{fl:Nat->Option Nat}{O:List Nat}(h:Pl k ix k fl O){t:Nat}(ht:t<k)(hf:fl t=none):un fl t<O.length:=by have h1:=akp fl (show t+1<=k by omega);have h2:=h.cnt;rw[un,hf]at h1;simp only[e1]at h1;omega
theorem akr(fl:Nat->Option Nat):∀(k m:Nat),m<un fl k->∃t,t<k/\fl t=none/\un fl t=m
 |0,m,h=>absurd h (by simp[un])
 |k+1,m,h=>by
  rcases aQ m (un fl k)with h1|h1
  .obtain⟨t,h2,h3⟩:=akr fl k m h1;exact⟨t,ae,h3⟩
  .rw[un]at h;cases hf:fl k with
   |some i=>rw[hf]at h;simp only[e1]at h;omega
   |none=>
    rw[hf]at h;simp only[e1]at h;exact⟨k,ae,hf,ae⟩
structure MH(k:Nat)(ix σ:Nat->Nat):Prop where
 lt:∀t,t<k->σ t<k
 on:∀t,t<k->ix (σ t)<k->ix (σ t)=t
 inj:∀t u,t<k->u<k->t≠u->ix (σ t)≠ix (σ u)
 all:∀i,i<k->∃t,t<k/\σ t=i
theorem Pl.apF{k:Nat}{ix:Nat->Nat}{fl:Nat->Option Nat}{O:List Nat}(h:Pl k ix k fl O)(hi:∀i j,i<k->j<k->i≠j->ix i≠ix j):MH k ix (sg fl O):=by
 have hO:∀t,t<k->fl t=none->O[un fl t]?=some (sg fl O t):=λt ht hf=>by have:=h.room ht hf;simp only[sg,hf];rw[aO,a_ this];rfl
 have lt:∀t,t<k->sg fl O t<k:=λt ht=>by
  cases hf:fl t with
  |some i=>simp only[sg,hf];exact(h.fl1 t i hf).1
  |none=>exact(h.o1 _ _ (hO t ht hf)).1
 have mono:∀t u,t<u->fl t=none->un fl t<un fl u:=λt u htu hf=>by have:=akp fl (show t+1<=u from htu);rw[un,hf]at this;simp only[e1]at this;omega
 refine⟨lt,λt ht hx=>?_,λt u ht hu hne=>?_,λi VW=>?_⟩
 .cases hf:fl t with
  |some i=>simp only[sg,hf];exact(h.fl1 t i hf).2.1
  |none=>have:=(h.o1 _ _ (hO t ht hf)).2;omega
 .refine hi _ _ (lt t ht) (lt u hu) λe=>?_
  cases hf:fl t with
  |some i=>
   cases hg:fl u with
   |some j=>
    have h1:=(h.fl1 t i hf).2.1;have h2:=(h.fl1 u j hg).2.1;simp only[sg,hf,hg]at e;subst e;omega
   |none=>
    have h1:=(h.o1 _ _ (hO u hu hg)).2;rw[<-e]at h1;simp only[sg,hf]at h1;have h2:=(h.fl1 t i hf).2;omega
  |none=>
   have h0:=hO t ht hf;cases hg:fl u with
   |some j=>
    have h1:=(h.o1 _ _ h0).2;rw[e]at h1;simp only[sg,hg]at h1;have h2:=(h.fl1 u j hg).2;omega
   |none=>
    have h1:=hO u hu hg;rw[e]at h0;have h2:=h.o3 _ _ _ h0 h1;rcases aQ t u with h3|h3
    .have:=mono t u h3 hf;omega
    .have:=mono u t ae hg;omega
 .rcases aQ (ix i) k with hx|hx
  .exact⟨ix i,hx,by simp only[sg,h.fl2 i VW hx]⟩
  .obtain⟨m,hm⟩:=h.o2 i VW hx;have hml:=(dS.1 hm).1;have:=h.cnt;obtain⟨t,h1,h2,h3⟩:=akr fl k m ae;refine⟨t,h1,?_⟩;have:=hO t h1 h2;rw[h3,hm]at this;cases this;rfl
