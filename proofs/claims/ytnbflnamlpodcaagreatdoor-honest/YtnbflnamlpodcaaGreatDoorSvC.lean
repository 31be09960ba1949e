import Derived.Test.YtnbflnamlpodcaaGreatDoorSvE
import Derived.Deep.RegionHeld3
import Derived.Deep.AppendLies
set_option maxHeartbeats 4000000
set_option maxRecDepth 100000
namespace Go.Proofs.Y
open Go.Proofs.Tryz
open Go.RowKit Go.Deep
structure Gw(w:ah)(h k:Nat)(bl:Nat->Nat)(A:Nat->Nat->F):Prop where
 head:w.rowIs h 34 k (λi=>.slice (some ⟨bl i,0,none⟩) k k)
 rows:∀i,i<k->w.rowIs (bl i) 5 k (fv (A i))
 inj:∀i j,i<k->j<k->i≠j->bl i≠bl j
 sep:∀i,i<k->bl i≠h
theorem Gw.congr{w:ah}{h k:Nat}{bl:Nat->Nat}{A A':Nat->Nat->F}(m:Gw w h k bl A)(e:∀i j,i<k->j<k->A i j=A' i j):Gw w h k bl A':=
 ⟨m.head,λi hi=>(m.rows i hi).congr λj hj=>by simp only[fv,e i j hi hj],m.inj,m.sep⟩
theorem Gw.heap{w w':ah}{h k:Nat}{bl:Nat->Nat}{A:Nat->Nat->F}(m:Gw w h k bl A)(e:w'.heap=w.heap):Gw w' h k bl A:=
 ⟨m.head.of_block lg,λi hi=>(m.rows i hi).of_block lg,m.inj,m.sep⟩
theorem Gw.turn{w w':ah}{h k c:Nat}{bl:Nat->Nat}{A:Nat->Nat->F}{r:Nat->F}(m:Gw w h k bl A)(hc:c<k)(ho:C9 (· =bl c) w w')(hr:w'.rowIs (bl c) 5 k (fv r)):Gw w' h k bl (λi=>if i=c then r else A i):=by
 refine⟨ho.row m.head.lt (λe=>m.sep c hc e.symm) m.head,λi hi=>?_,m.inj,m.sep⟩;by_cases e:i=c
 .subst e;simp only[aX];exact hr
 .simp only[au e];exact ho.row (m.rows i hi).lt (λx=>m.inj i c hi hc e x) (m.rows i hi)
theorem Gw.oth{w w':ah}{h k:Nat}{bl:Nat->Nat}{A:Nat->Nat->F}{S:Nat->Prop}(m:Gw w h k bl A)(ho:C9 S w w')(hh:¬S h)(hb:∀i,i<k->¬S (bl i)):Gw w' h k bl A:=
 ⟨ho.row m.head.lt hh m.head,λi hi=>ho.row (m.rows i hi).lt (hb i hi) (m.rows i hi),m.inj,m.sep⟩
structure Apart(k h1 h2:Nat)(b1 b2:Nat->Nat):Prop where
 rr:∀i j,i<k->j<k->b1 i≠b2 j
 hr:∀i,i<k->h1≠b2 i/\h2≠b1 i
 hh:h1≠h2
def Qj(A X:Nat->Nat->F)(t c i:Nat):Nat->F:=if i<c/\i≠t then F.added (A i t) (X i) (X t)else X i
theorem acU(A X:Nat->Nat->F)(t:Nat):Qj A X t 0=X:=by
 funext i
 rw[Qj,au ag]
theorem aod(A X:Nat->Nat->F)(t c:Nat):Qj A X t c t=X t:=by rw[Qj,au ag]
theorem ak5(A X:Nat->Nat->F)(t c:Nat):Qj A X t c c=X c:=by rw[Qj,au ag]
theorem ak6(A X:Nat->Nat->F)(t:Nat):Qj A X t (t+1)=Qj A X t t:=by
 funext i
 unfold Qj;by_cases h:i<t
 .rw[ay ag,ay ag]
 .rw[au ag,au ag]
theorem acV(A X:Nat->Nat->F){t c:Nat}(h:c≠t):(λi=>if i=c then F.added (A c t) (X c) (X t)else Qj A X t c i)=Qj A X t (c+1):=by
 funext i
 unfold Qj;by_cases e:i=c
 .subst e;rw[ay rfl,ay ag]
 .rw[au e];by_cases h1:i<c/\i≠t
  .rw[ay h1,ay ag]
  .rw[au h1,au ag]
def KG(k:Nat)(b1 b2:Nat->Nat)(x:Nat):Prop:=∃i,i<k/\(x=b1 i\/x=b2 i)
theorem Wj(k h1 h2 t:Nat)(b1 b2:Nat->Nat)(A B:Nat->Nat->F)(w:ah)(hk:k<=128)(ht:t<k)(hA:Gw w h1 k b1 A)(hB:Gw w h2 k b2 B)(hap:Apart k h1 h2 b1 b2):
  Calls prog 127 #[.slice (some ⟨h1,0,none⟩) k k,.slice (some ⟨h2,0,none⟩) k k,.int .i64 (t:Int)] w λe w'=>e=.returned (.tuple #[])/\Gw w' h1 k b1 (Qj A A t k)/\Gw w' h2 k b2 (Qj A B t k)/\C9 (KG k b1 b2) w w':=by
 go_enter func127,ntmps127;go_wp2
 go_loopw [10] (λvi wr=>∃c:Nat,c<=k/\vi=.int .i64 (c:Int)/\Gw wr h1 k b1 (Qj A A t c)/\Gw wr h2 k b2 (Qj A B t c)/\C9 (KG k b1 b2) w wr) (λi _=>k-(intOf i).toNat)
 case atStart=>exact⟨0,ag,rfl,by rw[acU];exact hA,by rw[acU];exact hB,C9.refl _ _⟩
 case round=>
  clear hA hB;obtain⟨c,hc,rfl,hA,hB,hO⟩:=hrel;by_cases qK:c<k
  .have Am:(c:Int)<(k:Int):=ag;by_cases BD:c=t
   .subst BD;have Oo:=hA;have Ap:=hB;rw[<-ak6]at Oo Ap;clear hA hB;go_wp2
    go_roundw
    case rel=>exact⟨c+1,ag,bU,Oo,Ap,hO⟩
    case measure=>simp[intOf];omega
   .have au4:((c:Int)==(t:Int))=false:=aS;have g1:wr.cell? ⟨h1,c,none⟩=some (.slice (some ⟨b1 c,0,none⟩) k k):=hA.head.cell qK;have g2:wr.cell? ⟨h1,t,none⟩=some (.slice (some ⟨b1 t,0,none⟩) k k):=hA.head.cell ht;have g3:wr.cell? ⟨h2,c,none⟩=some (.slice (some ⟨b2 c,0,none⟩) k k):=hB.head.cell qK;have g4:wr.cell? ⟨h2,t,none⟩=some (.slice (some ⟨b2 t,0,none⟩) k k):=hB.head.cell ht
    have g5:wr.cell? ⟨b1 c,t,none⟩=some (.int .u8 ((A c t).val:Int)):=by have:=(hA.rows c qK).cell ht;rw[ak5]at this;exact this
    have r1:=hA.rows c qK;have r2:=hA.rows t ht;have r3:=hB.rows c qK;have r4:=hB.rows t ht;rw[ak5]at r1 r3;rw[aod]at r2 r4
    have K1:∀w0:ah,w0.heap=wr.heap->w0.os=wr.os->w0.tape=wr.tape->w0.output=wr.output->Calls prog 91 #[.slice (some ⟨b1 c,0,none⟩) k k,.int .u8 ((A c t).val:Int),.slice (some ⟨b1 t,0,none⟩) k k] w0 λe w'=>e=.returned (.tuple #[])/\Gw w' h1 k b1 (Qj A A t (c+1))/\Gw w' h2 k b2 (Qj A B t c)/\C9 (KG k b1 b2) w w'/\(w'.cell? ⟨h1,c,none⟩=some (.slice (some ⟨b1 c,0,none⟩) k k)/\w'.cell? ⟨h1,t,none⟩=some (.slice (some ⟨b1 t,0,none⟩) k k)/\w'.cell? ⟨h2,c,none⟩=some (.slice (some ⟨b2 c,0,none⟩) k k)/\w'.cell? ⟨h2,t,none⟩=some (.slice (some ⟨b2 t,0,none⟩) k k)):=λw0 e e1 e2 e3=>by
     have m1:=hA.heap e;have m2:=hB.heap e;refine(PX (b1 c) (b1 t) k k k (A c) (A t) (A c t) w0 hk (r1.of_block lg) (r2.of_block lg) (by rw[e];exact r1.lt) (by rw[e];exact r2.lt) (hA.inj t c ht qK (λe=>BD e.symm))).mono ?_;rintro q w' ⟨rfl,h,ho⟩;have n1:=m1.turn qK ho h;rw[acV A A BD]at n1;have n2:=m2.oth ho (λx=>(hap.hr c qK).2 x) (λi hi x=>hap.rr c i qK hi x.symm);refine⟨rfl,n1,n2,?_,n1.head.cell qK,n1.head.cell ht,n2.head.cell qK,n2.head.cell ht⟩
     .exact(C9.mk (S:=KG k b1 b2) (e1.trans hO.os) (e2.trans hO.tape) (e3.trans hO.output) (by rw[e];exact hO.size) (λj hj hn=>axJ)).trans ho λj _ x=>⟨c,qK,.inl x⟩
    have K2:∀w0 w1:ah,w0.heap=w1.heap->w0.os=w1.os->w0.tape=w1.tape->w0.output=w1.output->Gw w1 h1 k b1 (Qj A A t (c+1))->Gw w1 h2 k b2 (Qj A B t c)->C9 (KG k b1 b2) w w1->Calls prog 91 #[.slice (some ⟨b2 c,0,none⟩) k k,.int .u8 ((A c t).val:Int),.slice (some ⟨b2 t,0,none⟩) k k] w0 λe w'=>e=.returned (.tuple #[])/\Gw w' h1 k b1 (Qj A A t (c+1))/\Gw w' h2 k b2 (Qj A B t (c+1))/\C9 (KG k b1 b2) w w'/\(w'.cell? ⟨h1,c,none⟩=some (.slice (some ⟨b1 c,0,none⟩) k k)/\w'.cell? ⟨h1,t,none⟩=some (.slice (some ⟨b1 t,0,none⟩) k k)/\w'.cell? ⟨h2,c,none⟩=some (.slice (some ⟨b2 c,0,none⟩) k k)/\w'.cell? ⟨h2,t,none⟩=some (.slice (some ⟨b2 t,0,none⟩) k k)):=λw0 w1 e e1 e2 e3 hA hB hO=>by
     have m1:=hA.heap e;have m2:=hB.heap e;have r3:=m2.rows c qK;have r4:=m2.rows t ht;rw[ak5]at r3;rw[aod]at r4;refine(PX (b2 c) (b2 t) k k k (B c) (B t) (A c t) w0 hk r3 r4 r3.lt r4.lt (hB.inj t c ht qK (λe=>BD e.symm))).mono ?_;rintro q w' ⟨rfl,h,ho⟩;have n1:=m2.turn qK ho h;rw[acV A B BD]at n1;have n2:=m1.oth ho (λx=>(hap.hr c qK).1 x) (λi hi x=>hap.rr i c hi qK x);refine⟨rfl,n2,n1,?_,n2.head.cell qK,n2.head.cell ht,n1.head.cell qK,n1.head.cell ht⟩
     .exact(C9.mk (S:=KG k b1 b2) (e1.trans hO.os) (e2.trans hO.tape) (e3.trans hO.output) (by rw[e];exact hO.size) (λj hj hn=>axJ)).trans ho λj _ x=>⟨c,qK,.inr x⟩
    clear r1 r2 r3 r4 hA hB;generalize(A c t).val=fac at*;generalize b1 c=b1c at*;generalize b1 t=b1t at*;generalize b2 c=b2c at*;generalize b2 t=b2t at*;go_wp2
    go_region_held3 (λw'=>w'.cell? ⟨h1,c,none⟩=some (.slice (some ⟨b1c,0,none⟩) k k)/\w'.cell? ⟨h1,t,none⟩=some (.slice (some ⟨b1t,0,none⟩) k k)) (go_keep)
     ((first
       |(go_at_call 91;refine(K1 _ aI aI aI aI).mono ?_;rintro q w2 ⟨rfl,Oo,Ap,Ot,d1,d2,d3,d4⟩)))
    have K3:=λw0 e e1 e2 e3=>K2 w0 w2 e e1 e2 e3 Oo Ap Ot
    clear K1 K2 Oo Ap Ot;go_wp2
    go_region_held3 (λw'=>w'.cell? ⟨h2,c,none⟩=some (.slice (some ⟨b2c,0,none⟩) k k)/\w'.cell? ⟨h2,t,none⟩=some (.slice (some ⟨b2t,0,none⟩) k k)) (go_keep)
     ((first
       |(go_at_call 91;refine(K3 _ aI aI aI aI).mono ?_;rintro q w3 ⟨rfl,Oo,Ap,Ot,d1,d2,d3,d4⟩)))
    have Qn:Gw w3 h1 k b1 (Qj A A t (c+1)):=iy;have Ov:Gw w3 h2 k b2 (Qj A B t (c+1)):=iy;have hO3:C9 (KG k b1 b2) w w3:=iy;go_wp2
    go_roundw
    case rel=>exact⟨c+1,ag,bU,Qn,Ov,hO3⟩
    case measure=>simp[intOf];omega
  .obtain rfl:c=k:=ag;have Hg:¬((c:Int)<(c:Int)):=ag;go_wp2;go_end0;exact⟨rfl,hA,hB,hO⟩
theorem ak7(k i j:Nat)(hi:i<k):((if j=i then(1:F)else 0).val:Nat)=uB k i j:=by unfold uB;rw[ay hi];split<;>rfl
theorem acW{w w':ah}{k:Nat}(h:IE w w' k k k (uB k)):Gw w' w.heap.size k (λi=>w.heap.size+1+i) (λi j=>if j=i then 1 else 0):=
 ⟨h.head.congr λi hi=>by unfold acN;rw[ay hi],λi hi=>(h.rows i hi).congr λj hj=>by simp only[fv];rw[ak7 k i j hi],λi j _ _ hne=>ag,λi hi=>ag⟩
def anG(k:Nat)(b1:Nat->Nat)(M:Nat->Nat->F)(w:ah)(e:Ending)(w':ah):Prop:=
 ∃h2 b2 A B,e=.returned (.slice (some ⟨h2,0,none⟩) k k)/\Gw w' h2 k b2 B/\F.Gj k M k A B/\C9 (λx=>∃i,i<k/\x=b1 i) w w'/\w.heap.size<=h2/\∀i,i<k->w.heap.size<=b2 i
def XO(A:Nat->Nat->F)(t:Nat)(r:Nat->F)(i:Nat):Nat->F:=if i=t then r else A i
theorem aqi(A:Nat->Nat->F)(t k:Nat){i:Nat}(hi:i<k):Qj (XO A t (F.scaled (F.iv (A t t)) (A t))) (XO A t (F.scaled (F.iv (A t t)) (A t))) t k i=F.Nj A t i:=by
 unfold Qj F.Nj XO;by_cases e:i=t
 .rw[au ag,ay e,ay e]
 .rw[ay ⟨hi,e⟩,au e,ay rfl,au e]
theorem aqj(A B:Nat->Nat->F)(t k:Nat){i:Nat}(hi:i<k):Qj (XO A t (F.scaled (F.iv (A t t)) (A t))) (XO B t (F.scaled (F.iv (A t t)) (B t))) t k i=F.Nk A B t i:=by
 unfold Qj F.Nk XO;by_cases e:i=t
 .rw[au ag,ay e,ay e]
 .rw[ay ⟨hi,e⟩,au e,au e,au e,ay rfl]
theorem abd(k h1:Nat)(b1:Nat->Nat)(M:Nat->Nat->F)(px:Nat->F)(w:ah)(hk:k<=128)(hM:Gw w h1 k b1 M)(hS:F.Sq k px M):
  Calls prog 109 #[.slice (some ⟨h1,0,none⟩) k k] w λe w'=>anG k b1 M w e w':=by
 obtain⟨w1,Y_,h0⟩:=XM k k hk (uB k) w;go_enter func109,ntmps109;go_wp2;clear Y_
 go_loopw [12] (λvi wr=>∃c:Nat,c<=k/\vi=.int .i64 (c:Int)/\IE w wr k k c (uB k)) (λi _=>k-(intOf i).toNat)
 case atStart=>exact⟨0,ag,rfl,h0⟩
 case round=>
  obtain⟨c,hc,rfl,hN⟩:=hrel;clear h0;by_cases qK:c<k
  .have hz:=hN.size;have Am:(c:Int)<(k:Int):=ag
   have hcell:∀w',Ad wr w' k (uB k c)->w'.cell? ⟨w.heap.size,c,none⟩=some (.slice none 0 0)/\w'.frozen? ⟨w.heap.size,c,none⟩=false:=λw' h=>by have hr:=hN.head.of_block (h.below.block w.heap.size ag);refine⟨?_,hr.frozen c⟩;have:=hr.cell qK;rw[this];unfold acN;rw[au ag]
   have HZ:Hid (wr.heap.size=w.heap.size+1+c):=hz;clear hz
   go_wp2_with(first|(go_at_call 92;refine(Tc _ _ hk qK _).mono ?_;rintro e w2 ⟨rfl,h2⟩;obtain⟨Wq,hf2⟩:=hcell _ h2;have h3:=hN.step h2;clear h2))
   go_roundw
   case rel=>exact⟨c+1,ag,bU,h3⟩
   case measure=>simp[intOf];omega
  .obtain rfl:c=k:=ag;have Hg:¬((c:Int)<(c:Int)):=ag;have Jj:=acW hN;have hA0:Gw wr h1 c b1 M:=hM.oth (S:=λ_=>False) (C9.below hN.below) (λx=>x) (λ_ _ x=>x);have uu:∀i,i<c->b1 i<w.heap.size:=λi hi=>(hM.rows i hi).lt
   have hh1:h1<w.heap.size:=hM.head.lt;have hap:Apart c h1 w.heap.size b1 (λi=>w.heap.size+1+i):=⟨λi j hi hj=>by have:=uu i hi;omega,λi hi=>⟨ag,by have:=uu i hi;omega⟩,ag⟩;have hO0:C9 (λx=>∃i,i<c/\x=b1 i) w wr:=C9.below hN.below;have hsz:=hN.size;go_wp2;clear hM hN;generalize hNN:w.heap.size=N at*;generalize WR:(λi=>N+1+i)=b2 at*;have tX:∀i,N<=b2 i:=λi=>by rw[<-WR];show N<=N+1+i;omega
   clear WR
   go_loopw [25] (λvi wr=>∃t:Nat,t<=c/\vi=.int .i64 (t:Int)/\∃A B,Gw wr h1 c b1 A/\Gw wr N c b2 B/\F.Gj c M t A B/\C9 (λx=>∃i,i<c/\x=b1 i) w wr) (λi _=>c-(intOf i).toNat)
   case atStart=>exact⟨0,ag,rfl,_,_,hA0,Jj,F.ak8 c M,hO0⟩
   case round=>
    clear hA0 Jj hO0;obtain⟨t,ht,rfl,A,B,hA,hB,hG,hO⟩:=hrel;by_cases qK:t<c
    .have Am:(t:Int)<(c:Int):=ag;have hG2:=F.anH hS hG qK;have g1:wr.cell? ⟨h1,t,none⟩=some (.slice (some ⟨b1 t,0,none⟩) c c):=hA.head.cell qK;have g5:wr.cell? ⟨b1 t,t,none⟩=some (.int .u8 ((A t t).val:Int)):=(hA.rows t qK).cell qK;have K0:=afR (A t t).val (A t t).isLt wr;have K1:=Y5 (b1 t) c c (A t) (F.iv (A t t)) wr hk (hA.rows t qK) (hA.rows t qK).lt
     have K2:∀w2,w2.rowIs (b1 t) 5 c (fv (F.scaled (F.iv (A t t)) (A t)))->C9 (· =b1 t) wr w2->w2.cell? ⟨N,t,none⟩=some (.slice (some ⟨b2 t,0,none⟩) c c)/\Calls prog 126 #[.slice (some ⟨b2 t,0,none⟩) c c,.int .u8 ((F.iv (A t t)).val:Int)] w2 λe w'=>e=.returned (.tuple #[])/\Gw w' h1 c b1 (XO A t (F.scaled (F.iv (A t t)) (A t)))/\Gw w' N c b2 (XO B t (F.scaled (F.iv (A t t)) (B t)))/\C9 (KG c b1 b2) wr w':=λw2 hr ho=>by have m1:=hA.turn qK ho hr;have m2:=hB.oth ho (λx=>(hap.hr t qK).2 x) (λi hi x=>hap.rr t i qK hi x.symm);refine⟨m2.head.cell qK,(Y5 (b2 t) c c (B t) (F.iv (A t t)) w2 hk (m2.rows t qK) (m2.rows t qK).lt).mono ?_⟩;rintro q w' ⟨rfl,h,ho2⟩;exact⟨rfl,m1.oth ho2 (λx=>(hap.hr t qK).1 x) (λi hi x=>hap.rr i t hi qK x),m2.turn qK ho2 h,(ho.mono (S':=KG c b1 b2) λx e=>⟨t,qK,.inl e⟩).trans ho2 λj _ x=>⟨t,qK,.inr x⟩⟩
     have K3:∀w2,Gw w2 h1 c b1 (XO A t (F.scaled (F.iv (A t t)) (A t)))->Gw w2 N c b2 (XO B t (F.scaled (F.iv (A t t)) (B t)))->C9 (KG c b1 b2) wr w2->Calls prog 127 #[.slice (some ⟨h1,0,none⟩) c c,.slice (some ⟨N,0,none⟩) c c,.int .i64 (t:Int)] w2 λe w'=>e=.returned (.tuple #[])/\Gw w' h1 c b1 (F.Nj A t)/\Gw w' N c b2 (F.Nk A B t)/\C9 (λx=>∃i,i<c/\x=b1 i) w w':=λw2 m1 m2 ho=>by
      refine(Wj c h1 N t b1 b2 _ _ w2 hk qK m1 m2 hap).mono ?_;rintro q w' ⟨rfl,n1,n2,ho2⟩;refine⟨rfl,n1.congr λi j hi _=>congrFun (aqi A t c hi) j,n2.congr λi j hi _=>congrFun (aqj A B t c hi) j,hO.trans (ho.trans ho2 λ_ _ x=>x) λx hx=>?_⟩;rintro⟨i,hi,e|e⟩
      .exact⟨i,hi,e⟩
      .have:=tX i;omega
     clear hG hA hB;have eiv:(F.iv (A t t)).val=inv (A t t).val:=rfl;rw[eiv]at K1 K2;generalize inv (A t t).val=fac at*;generalize(A t t).val=xtt at*;generalize b1 t=b1t at*;generalize b2 t=b2t at*
     go_wp2_with(first
      |(go_at_call 93;(with_reducible refine K0.mono ?_);rintro e w' ⟨rfl,uf⟩;obtain rfl:=uf.symm)
      |(go_at_call 126;(with_reducible refine K1.mono ?_);rintro e w2 ⟨rfl,s1,s2⟩;obtain⟨g2,K2'⟩:=K2 w2 s1 s2)
      |(go_at_call 126;(with_reducible refine K2'.mono ?_);rintro e w3 ⟨rfl,s3,s4,s5⟩;have K3':=K3 w3 s3 s4 s5)
      |(go_at_call 127;(with_reducible refine K3'.mono ?_);rintro e w4 ⟨rfl,s6,s7,s8⟩))
     go_roundw
     case rel=>exact⟨t+1,ag,bU,_,_,s6,s7,hG2,s8⟩
     case measure=>simp[intOf];omega
    .obtain rfl:t=c:=ag;have Hg:¬((t:Int)<(t:Int)):=ag;go_wp2;go_ret;exact⟨N,b2,A,B,rfl,hB,hG,hO,ag,λi _=>by rw[hNN];exact tX i⟩
end Go.Proofs.Y
namespace Go.Proofs.Y
open Go.Proofs.Tryz
def e1:Option Nat->Nat
 |some _=>0
 |none=>1
def un(fl:Nat->Option Nat):Nat->Nat
 |0=>0
 |t+1=>un fl t+e1 (fl t)
theorem anI(t:Nat):un (λ_=>none) t=t:=by
 induction t with
 |zero=>rfl
 |succ t ih=>rw[un,ih];rfl
theorem ak9(fl:Nat->Option Nat)(p i:Nat)(h:fl p=none):∀t,un (λx=>if x=p then some i else fl x) t+(if p<t then 1 else 0)=un fl t
 |0=>rfl
 |t+1=>by
  have ih:=ak9 fl p i h t;simp only[un];by_cases e:t=p
  .subst e;rw[au ag]at ih;rw[ay rfl,ay ag,h];simp only[e1];omega
  .rw[au e];by_cases e2:p<t
   .rw[ay e2]at ih;rw[ay ag];omega
   .rw[au e2]at ih;rw[au ag];omega
theorem aif(fl:Nat->Option Nat){a b:Nat}(h:a<=b):un fl a<=un fl b:=by
 induction b with
 |zero=>
  obtain rfl:a=0:=ag;exact az _
 |succ b ih=>
  rcases bJ a (b+1)with h1|h1
  .exact bu (ih ag) (by rw[un];omega)
  .obtain rfl:a=b+1:=ag;exact az _
structure Pl(k:Nat)(ix:Nat->Nat)(c:Nat)(fl:Nat->Option Nat)(O:aA):Prop where
 fl1:∀t i,fl t=some i->i<c/\ix i=t/\t<k
 fl2:∀i,i<c->ix i<k->fl (ix i)=some i
 o1:∀(m i:Nat),O[m]?=some i->i<c/\k<=ix i
 o2:∀i,i<c->k<=ix i->∃m:Nat,O[m]?=some i
 o3:∀(m m' i:Nat),O[m]?=some i->O[m']?=some i->m=m'
 cnt:O.length+k=c+un fl k
theorem aie(k:Nat)(ix:Nat->Nat):Pl k ix 0 (λ_=>none) []:=
 ⟨λ_ _ h=>f_,λ_ h=>absurd h ag,λ_ _ h=>kX,λ_ h=>absurd h ag,λ_ _ _ h=>kX,by rw[anI];simp⟩
theorem Pl.own{k c:Nat}{ix:Nat->Nat}{fl:Nat->Option Nat}{O:aA}(h:Pl k ix c fl O)(hi:∀i,i<c->ix i≠ix c)(hc:ix c<k):fl (ix c)=none/\Pl k ix (c+1) (λx=>if x=ix c then some c else fl x) O:=by
 have hn:fl (ix c)=none:=by
  cases hf:fl (ix c)with
  |none=>rfl
  |some i=>
   obtain⟨h1,h2,_⟩:=h.fl1 _ _ hf;exact absurd h2 (hi i h1)
 refine⟨hn,λt i ht=>?_,λi hic WT=>?_,λm i hm=>?_,λi hic WT=>?_,h.o3,?_⟩
 .by_cases e:t=ix c
  .rw[ay e]at ht;cases ht;exact⟨ag,e.symm,ag⟩
  .rw[au e]at ht;obtain⟨h1,h2,h3⟩:=h.fl1 t i ht;exact⟨ag,h2,h3⟩
 .by_cases e:i=c
  .subst e;rw[ay rfl]
  .rw[au (hi i ag),h.fl2 i ag WT]
 .exact azZ
 .have:i≠c:=by rintro rfl;omega
  exact h.o2 i ag WT
 .have h1:=ak9 fl (ix c) c hn k;rw[ay hc]at h1;have h2:=h.cnt;omega
theorem Pl.other{k c:Nat}{ix:Nat->Nat}{fl:Nat->Option Nat}{O:aA}(h:Pl k ix c fl O)(hc:k<=ix c):Pl k ix (c+1) fl (O++[c]):=by
 refine⟨λt i ht=>?_,λi hic WT=>?_,λm i hm=>?_,λi hic WT=>?_,λm m' i hm WC=>?_,?_⟩
 .obtain⟨h1,h2⟩:=h.fl1 t i ht;exact⟨ag,h2⟩
 .have:i≠c:=by rintro rfl;omega
  exact h.fl2 i ag WT
 .rw[avX]at hm;split at hm
  .exact azZ
  .have:i=c:=by
    cases hmm:m-O.length with
    |zero=>rw[hmm]at hm;simp at hm;exact hm.symm
    |succ x=>rw[hmm]at hm;simp at hm
   subst this;exact⟨ag,hc⟩
 .by_cases e:i=c
  .subst e;exact⟨O.length,ax⟩
  .obtain⟨m,hm⟩:=h.o2 i ag WT;exact⟨m,by rw[avX,ay (fJ.1 hm).1];exact hm⟩
 .have key:∀m:Nat,(O++[c])[m]?=some i->(m<O.length/\O[m]?=some i)\/(m=O.length/\i=c):=by
   intro m hm;rw[avX]at hm;split at hm
   .exact .inl ⟨iy,hm⟩
   .refine .inr ?_;cases hmm:m-O.length with
    |zero=>rw[hmm]at hm;simp at hm;exact⟨ag,hm.symm⟩
    |succ x=>rw[hmm]at hm;simp at hm
  rcases key m hm with⟨h1,h2⟩|⟨h1,h2⟩<;>rcases key m' WC with⟨h3,h4⟩|⟨h3,h4⟩
  .exact h.o3 m m' i h2 h4
  .have:=(h.o1 m i h2).1;omega
  .have:=(h.o1 m' i h4).1;omega
  .omega
 .have:=h.cnt;simp;omega
def sg(fl:Nat->Option Nat)(O:aA)(t:Nat):Nat:=match fl t with
 |some i=>i
 |none=>O.getD (un fl t) 0
theorem Pl.room{k:Nat}{ix:Nat->Nat}{fl:Nat->Option Nat}{O:aA}(h:Pl k ix k fl O){t:Nat}(ht:t<k)(hf:fl t=none):un fl t<O.length:=by have h1:=aif fl (show t+1<=k by omega);have h2:=h.cnt;rw[un,hf]at h1;simp only[e1]at h1;omega
theorem ak_(fl:Nat->Option Nat):∀(k m:Nat),m<un fl k->∃t,t<k/\fl t=none/\un fl t=m
 |0,m,h=>absurd h (by simp[un])
 |k+1,m,h=>by
  rcases bJ m (un fl k)with h1|h1
  .obtain⟨t,h2,h3⟩:=ak_ fl k m h1;exact⟨t,ag,h3⟩
  .rw[un]at h;cases hf:fl k with
   |some i=>rw[hf]at h;simp only[e1]at h;omega
   |none=>
    rw[hf]at h;simp only[e1]at h;exact⟨k,ag,hf,ag⟩
structure NF(k:Nat)(ix σ:Nat->Nat):Prop where
 lt:∀t,t<k->σ t<k
 on:∀t,t<k->ix (σ t)<k->ix (σ t)=t
 inj:∀t u,t<k->u<k->t≠u->ix (σ t)≠ix (σ u)
 all:∀i,i<k->∃t,t<k/\σ t=i
theorem Pl.aqn{k:Nat}{ix:Nat->Nat}{fl:Nat->Option Nat}{O:aA}(h:Pl k ix k fl O)(hi:∀i j,i<k->j<k->i≠j->ix i≠ix j):NF k ix (sg fl O):=by
 have hO:∀t,t<k->fl t=none->O[un fl t]?=some (sg fl O t):=λt ht hf=>by have:=h.room ht hf;simp only[sg,hf];rw[bH,cO this];rfl
 have lt:∀t,t<k->sg fl O t<k:=λt ht=>by
  cases hf:fl t with
  |some i=>simp only[sg,hf];exact(h.fl1 t i hf).1
  |none=>exact(h.o1 _ _ (hO t ht hf)).1
 have mono:∀t u,t<u->fl t=none->un fl t<un fl u:=λt u htu hf=>by have:=aif fl (show t+1<=u from htu);rw[un,hf]at this;simp only[e1]at this;omega
 refine⟨lt,λt ht hx=>?_,λt u ht hu hne=>?_,λi WT=>?_⟩
 .cases hf:fl t with
  |some i=>simp only[sg,hf];exact(h.fl1 t i hf).2.1
  |none=>have:=(h.o1 _ _ (hO t ht hf)).2;omega
 .refine hi _ _ (lt t ht) (lt u hu) λe=>?_
  cases hf:fl t with
  |some i=>
   cases hg:fl u with
   |some j=>
    have h1:=(h.fl1 t i hf).2.1;have h2:=(h.fl1 u j hg).2.1;simp only[sg,hf,hg]at e;subst e;omega
   |none=>
    have h1:=(h.o1 _ _ (hO u hu hg)).2;rw[<-e]at h1;simp only[sg,hf]at h1;have h2:=(h.fl1 t i hf).2;omega
  |none=>
   have h0:=hO t ht hf;cases hg:fl u with
   |some j=>
    have h1:=(h.o1 _ _ h0).2;rw[e]at h1;simp only[sg,hg]at h1;have h2:=(h.fl1 u j hg).2;omega
   |none=>
    have h1:=hO u hu hg;rw[e]at h0;have h2:=h.o3 _ _ _ h0 h1;rcases bJ t u with h3|h3
    .have:=mono t u h3 hf;omega
    .have:=mono u t ag hg;omega
 .rcases bJ (ix i) k with hx|hx
  .exact⟨ix i,hx,by simp only[sg,h.fl2 i WT hx]⟩
  .obtain⟨m,hm⟩:=h.o2 i WT hx;have hml:=(fJ.1 hm).1;have:=h.cnt;obtain⟨t,h1,h2,h3⟩:=ak_ fl k m ag;refine⟨t,h1,?_⟩;have:=hO t h1 h2;rw[h3,hm]at this;cases this;rfl
end Go.Proofs.Y
namespace Go.Proofs.Y
open Go.Proofs.Tryz
open Go.RowKit Go.Deep
def acX(c:Int):Int:=if c<0 then-(c+1)else c
def yI(c:Int)(n:Nat):Nat:=(acX c).toNat%n
theorem yH(c:Int){n:Nat}(h:0<n):yI c n<n:=iR _ h
theorem Dq(c:Int)(n:Nat)(z:Int)(hz:z=(n:Int))(h0: -9223372036854775808<=c)(h1:c<9223372036854775808)(hn:0<n)(hn2:n<9223372036854775808)(w:ah):
  Calls prog 10 #[.int .i64 c,.int .i64 z] w λe w'=>e=.returned (.int .i64 ((yI c n:Nat):Int))/\w'=w:=by
 subst hz;by_cases hc:c<0
 .obtain⟨m,hm⟩:∃m:Nat,c= -((m:Int)+1):=⟨(-(c+1)).toNat,ag⟩
  have e: -((c+1).tmod n)=((yI c n:Nat):Int):=by
   have e1:c+1= -(m:Int):=ag;have e2:acX c=(m:Int):=by unfold acX;rw[ay hc];omega
   rw[e1,Int.neg_tmod,Int.neg_neg,yI,e2];rfl
  clear hm;go_enter func10,ntmps10;go_wp2;go_ret;exact⟨by rw[<-e];rfl,rfl⟩
 .obtain⟨m,rfl⟩:∃m:Nat,c=(m:Int):=⟨c.toNat,ag⟩
  have e:(m:Int)%n=((yI m n:Nat):Int):=by
   have e2:acX m=(m:Int):=by unfold acX;rw[au hc]
   rw[yI,e2];rfl
  go_enter func10,ntmps10;go_wp2;go_ret;exact⟨by rw[<-e];rfl,rfl⟩
def prm(k n c:Nat):ai:=.agg #[.int .i64 (k:Int),.int .i64 (n:Int),.int .i64 (c:Int)]
def zy(n:Int):Nat:=1+yI n 12
def LY(k n:Int):Nat:=1+yI k (zy n)
theorem aab(n:Int):1<=zy n/\zy n<=12:=by have:=yH n (show 0<12 by omega);unfold zy;omega
theorem akW(k n:Int):1<=LY k n/\LY k n<=zy n:=by have:=aab n;have:=yH k (show 0<zy n by omega);unfold LY;omega
def Jg(c:Int):Prop:= -9223372036854775808<=c/\c<9223372036854775808
structure Uc(w:ah)(v:ai)(zs:di):Prop where
 aga:∀z∈zs,Jg z
 lies:(∃cap bo,zs=[]/\v=.slice bo 0 cap)\/∃b off cap,v=.slice (some ⟨b,off,none⟩) zs.length cap/\b<w.heap.size/\∀j z,zs[j]?=some z->w.cell? ⟨b,off+j,none⟩=some (.int .i64 z)
theorem Uc.open{w:ah}{v:ai}{zs:di}(h:Uc w v zs):∃bo cap,v=.slice bo zs.length cap/\(0<zs.length->∃b off,bo=some ⟨b,off,none⟩/\b<w.heap.size/\∀j z,zs[j]?=some z->w.cell? ⟨b,off+j,none⟩=some (.int .i64 z)):=by
 rcases h.lies with⟨cap,bo,rfl,rfl⟩|⟨b,off,cap,h1,h2,h3⟩
 .exact⟨bo,cap,rfl,λh=>absurd h ax⟩
 .exact⟨_,cap,h1,λ_=>⟨b,off,rfl,h2,h3⟩⟩
structure at6(n:Nat)(xs:aA):Prop where
 len:xs.length=n
 lt:∀(i x:Nat),xs[i]?=some x->x<n
 inj:∀(i j x:Nat),xs[i]?=some x->xs[j]?=some x->i=j
