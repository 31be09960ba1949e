import Derived.Test.YtnbflnamlpodcaaGreatDoorHqD
import Derived.Test.YtnbflnamlpodcaaGreatDoorEnC
import Derived.Deep.CutRange
import Derived.Deep.RegionHeld
set_option maxHeartbeats 4000000
set_option maxRecDepth 100000
namespace Go.Proofs.Y
open Go.Proofs.Tryz
open Go.RowKit Go.Deep Go.Hp
theorem Tryz.Qr:(prog.info? 55).map (λi=>(i.zero,i.size,i.bytes))=some (some (.agg #[.int .i64 0,.int .i64 0,.int .i64 0,.int .i64 0,.slice none 0 0,.slice none 0 0,.slice none 0 0]),7,104):=aj
def SC(w:ah)(bo:aY)(n:Nat)(S:Nat->aK):Prop:=0<n->∃b o,bo=some ⟨b,o,none⟩/\b<w.heap.size/\∀i,i<n->w.rangeAt b (o+i*7) (S i)
theorem SC.below{w w':ah}{bo:aY}{n B:Nat}{S:Nat->aK}(h:SC w bo n S)(hb:Below B w w')(hB:w.heap.size<=B):SC w' bo n S:=λhn=>by obtain⟨b,o,h1,h2,h3⟩:=h hn;exact⟨b,o,h1,bG h2 hb.size,λi hi j v hv=>(hb.cell (p:=⟨b,_,none⟩) (bG h2 hB)).trans (h3 i hi j v hv)⟩
def Xp(ix:Nat->Nat)(i:Nat):qX:=⟨[UInt8.ofNat (ix i)],none,i,0⟩
theorem ab1{ix:Nat->Nat}{i:Nat}(h:ix i<256):Ai (Xp ix i)=ix i:=by show(UInt8.ofNat (ix i)).toNat=ix i;simp[cu h]
theorem QL{w:ah}{g o:Nat}{b c d e x y z:ai}(h:w.rangeAt g o [b,c,d,e,x,y,z]):w.cell? ⟨g,o,none⟩=some b/\w.cell? ⟨g,o+1,none⟩=some c/\w.cell? ⟨g,o+2,none⟩=some d/\w.cell? ⟨g,o+3,none⟩=some e/\w.cell? ⟨g,o+4,none⟩=some x/\w.cell? ⟨g,o+5,none⟩=some y/\w.cell? ⟨g,o+6,none⟩=some z:=
 ⟨h 0 _ rfl,h 1 _ rfl,h 2 _ rfl,h 3 _ rfl,h 4 _ rfl,h 5 _ rfl,h 6 _ rfl⟩
section
variable {S:Nat->aK}
theorem ag9{h i m k:Nat}{f out fh f2:Nat->qX}{v v2 vs v':ai}{w wq W2 wa w5:ah}(hk:i-m=k+1)(hp:Hp fh (k+1))(hR:qR i f (λx=>if x<m then out x else fh (x-m)))
  (WG:∀x,x+1<m->Hp.le (out x).k (out (x+1)).k) (hle:∀x,x<k+1->0<m->Hp.le (out (m-1)).k (fh x).k) (H:HI S (h+1) h (k+1) fh v wq) (o0:wq.ownsRow (h+1) 55 7 vs m (zK (λe=>S e.l) m out)) (b0:Below h w wq)
  (Fz:qR k (O1 k fh) f2) (CE:Hp f2 k) (H2:HI S (h+1) h k f2 v2 W2) (tX:Below h wq W2) (s2:h+1<=W2.heap.size) (KZ:∀b,b<wq.heap.size->b≠h->some b≠v.ownBlock->W2.heap[b]?=wq.heap[b]?)
  (ha:Below W2.heap.size W2 wa) (hg:wa.grownBy w5 vs.ownBlock) (ho:w5.ownsRow (h+1) 55 7 v' (m+1) (zK (λe=>S e.l) m out++S (fh 0).l)):
  m+1<=i/\HI S (h+1) h (i-(m+1)) f2 v2 w5/\Hp f2 (i-(m+1))/\qR i f (λx=>if x<m+1 then(λx=>if x=m then fh 0 else out x) x else f2 (x-(m+1)))/\(∀x,x+1<m+1->Hp.le ((λx=>if x=m then fh 0 else out x) x).k ((λx=>if x=m then fh 0 else out x) (x+1)).k)/\(∀x,x<i-(m+1)->0<m+1->Hp.le ((λx=>if x=m then fh 0 else out x) (m+1-1)).k (f2 x).k)/\w5.ownsRow (h+1) 55 7 v' (m+1) (zK (λe=>S e.l) (m+1) (λx=>if x=m then fh 0 else out x))/\Below h w w5/\h+1<=w5.heap.size:=by
 have ek:i-(m+1)=k:=ag;have hsa:=ha.size;have hsq:=tX.size;have hR':=hR.trans ((qR.alr (k:=k) (o:=out) (g:=fh) (show m+(k+1)=i by omega)));have o4:W2.ownsRow (h+1) 55 7 vs m (zK (λe=>S e.l) m out):=rU o0 λg uO=>KZ g (o0.lt g uO).2 (λe=>by have:=(o0.lt g uO).1;omega) (λe=>D6 o0 H.own aC uO e.symm)
 have kb:∀b,b<W2.heap.size->some b≠vs.ownBlock->w5.heap[b]?=W2.heap[b]?:=λb hb hne=>(hg.block b ag hne).trans (ha.block b hb)
 have I_:Below (h+1) W2 w5:=((ha.mono s2).grown hg ag (λx hx=>(o4.lt x hx).1));have DY:=I_.size;rw[ek];refine⟨ag,⟨H2.var.of_block (kb h ag (λe=>aye)),rU H2.own λg uO=>kb g (H2.own.lt g uO).2 (λe=>D6 H2.own o4 aC uO e.symm),H2.low,H2.sg⟩,CE,?_,?_,?_,?_,(b0.trans tX).trans (I_.mono ag),ag⟩
 .exact azg
 .intro x hx;dsimp only;rw[au (show¬x=m by omega)];by_cases e:x+1=m
  .rw[ay e];have:=hle 0 ag ag;rw[show m-1=x by omega]at this;exact this
  .rw[au e];exact WG x ag
 .intro x hx _;dsimp only;rw[iF,ay rfl];obtain⟨j,hj,ej⟩:=Fz.from hx;rw[ej];unfold O1;split
  .exact ZP hp k ag
  .exact ZP hp j ag
 .rw[Ah,ay rfl,SA (g:=out) λj hj=>iq];exact ho
theorem ab2(n:Nat)(hn:n<=1048576)(w:ah):(Instr.makeSlice 52 (.int .i64 0) (.int .i64 (n:Int))).run prog w=.ok (.slice (some ⟨w.heap.size,0,none⟩) 0 n) (w.alloc (.cells (madeCells #[.int .i64 0,.int .i64 0,.int .i64 0,.int .i64 0,.slice none 0 0,.slice none 0 0,.slice none 0 0] (n*7)) 55)):=by obtain⟨i0,Ak,yz,xA,wH⟩:=dm Tryz.Qr;have:=jQ (P:=prog) w 52 55 i0 _ underlying52 Ak yz .i64 .i64 0 n ag ag ik ag;exact ayA
theorem ag_(w:ah)(n B:Nat)(hB:B<=w.heap.size)(hn:n<=1048576):(w.alloc (.cells (madeCells #[.int .i64 0,.int .i64 0,.int .i64 0,.int .i64 0,.slice none 0 0,.slice none 0 0,.slice none 0 0] (n*7)) 55)).ownsRow B 55 7 (.slice (some ⟨w.heap.size,0,none⟩) 0 n) 0 []:=
 ⟨rfl,.inr ⟨w.heap.size,n,madeCells #[.int .i64 0,.int .i64 0,.int .i64 0,.int .i64 0,.slice none 0 0,.slice none 0 0,.slice none 0 0] (n*7),rfl,hB,fC _ _,ag,dB,iO _ _,rfl⟩⟩
def ByI(S:Nat->aK)(ix:Nat->Nat)(n:Nat)(w:ah)(r:Ending)(w':ah):Prop:=
 Below w.heap.size w w'/\∃out v,r=.returned v/\qR n (Xp ix) out/\(∀i,i+1<n->Hp.le (out i).k (out (i+1)).k)/\w'.ownsRow w.heap.size 55 7 v n (zK (λe=>S e.l) n out)
theorem ab3(hS:TQ S)(ix:Nat->Nat)(n cap:Nat)(bo:aY)(w:ah)(hn:n<=1048576)(hB:SC w bo n S)(hx:∀i,i<n->ix i<256/\(S i)[2]?=some (.int .i64 ((ix i:Nat):Int))):
  Calls prog 35 #[.slice bo n cap] w λr w'=>ByI S ix n w r w':=by
 obtain⟨i0,Ak,yz,xA,wH⟩:=dm Tryz.Qr
 have v0:(w.alloc (.cells #[.slice none 0 0] 132)).rowIs w.heap.size 132 1 (λ_=>.slice none 0 0):=
  World.rowIs_alloc w #[.slice none 0 0] 132 (λ_=>.slice none 0 0) (λi hi=>by obtain rfl:i=0:=jq;rfl)
 have b0:Below w.heap.size w (w.alloc (.cells #[.slice none 0 0] 132)):=(aT _ _).alloc (az _) _;have s0:(w.alloc (.cells #[.slice none 0 0] 132)).heap.size=w.heap.size+1:=ax;have H0:HI S (w.heap.size+1) w.heap.size 0 (Xp ix) (.slice none 0 0) (w.alloc (.cells #[.slice none 0 0] 132)):=⟨v0,dK _ _ _ _,ag,λi hi=>absurd hi ag⟩;go_enter func35,ntmps35;go_wp2;generalize w.alloc (.cells #[.slice none 0 0] 132)=w0 at*;generalize hh:w.heap.size=h at*
 go_loopw [5,9] (λ_ vi wr=>∃(i:Nat)(f':Nat->qX)(v:ai),i<=n/\vi=.int .i64 ((i:Nat):Int)/\HI S (h+1) h i f' v wr/\qR i (Xp ix) f'/\Hp f' i/\Below h w wr/\h+1<=wr.heap.size) (λ_ vi _=>n-(intOf vi).toNat)
 case atStart=>exact⟨0,_,_,ag,rfl,H0,qR.refl _ _,λc _ hc=>absurd hc ag,b0,ag⟩
 case round=>
  clear v0 b0 s0 H0;obtain⟨i,f',v,hi,rfl,H,hR,hp,hb,hs⟩:=hrel;by_cases qK:i<n
  .have Am:(i:Int)<(n:Int):=ag;obtain⟨b,o,rfl,L_,hcell⟩:=hB.below hb ag ag;have ri:=hcell i qK;obtain⟨hxi,h2⟩:=hx i qK;have sx:=hS.one i;have kp:=λw1 H1 s1=>ag8 hS (h+1) h i f' v (Xp ix i) w1 ⟨_,rfl⟩ H1 s1 ag hp
   rw[show(Xp ix i).l=i from rfl,ab1 hxi]at kp;obtain⟨x1,x2,x3,x4,x5,x6,x7,ex⟩:=eight (hS.len i);rw[ex]at ri h2 sx kp;simp only[jD,jB,iE]at h2;subst h2;obtain⟨p0,p1,p2,p3,p4,p5,p6⟩:=QL ri;obtain⟨t1,t2,-,t4,t5,t6,t7⟩:=G6 sx;have cn:=Ew wr [x1,x2,.int .i64 ((ix i:Nat):Int),x4,x5,x6,x7] 55;have c0:=cn 0;have c1:=cn 1;have c2:=cn 2;have c3:=cn 3;have c4:=cn 4;have c5:=cn 5;have c6:=cn 6;simp only[jB,jD]at c0 c1 c2 c3 c4 c5 c6;have H1:HI S (h+1) h i f' v (wr.alloc (.cells #[x1,x2,.int .i64 ((ix i:Nat):Int),x4,x5,x6,x7] 55)):=⟨H.var.alloc _,H.own.alloc _,H.low,H.sg⟩;have b1:=hb.alloc ag (.cells #[x1,x2,.int .i64 ((ix i:Nat):Int),x4,x5,x6,x7] 55);have s1:h+1<=(wr.alloc (.cells #[x1,x2,.int .i64 ((ix i:Nat):Int),x4,x5,x6,x7] 55)).heap.size:=aS;have kp':=kp _ H1 s1;have Fz:qR (i+1) (Xp ix) (λx=>if x=i then Xp ix i else f' x):=hR.snoc (λ_ _=>rfl) (λx hx=>iq) (by rw[ay rfl]);clear H1 H hb cn kp hcell ri sx;generalize BB:wr.alloc (.cells #[x1,x2,.int .i64 ((ix i:Nat):Int),x4,x5,x6,x7] 55)=w1 at*
   go_wp2_with(first
    |(go_at_call 60;(with_reducible refine kp'.mono ?_);rintro r w2 ⟨rfl,f2,v2,H2,WN,CE,tX,zU⟩))
   go_roundw
   case rel=>exact⟨i+1,f2,v2,ag,bU,H2,Fz.trans WN,CE,b1.trans tX,zU⟩
   case measure=>simp[intOf];omega
  .obtain rfl:i=n:=ag;have Hg:¬((i:Int)<(i:Int)):=ag;have mk:=ab2 i hn wr;have DD:=ag_ wr i (h+1) hs hn;generalize madeCells #[.int .i64 0,.int .i64 0,.int .i64 0,.int .i64 0,.slice none 0 0,.slice none 0 0,.slice none 0 0] (i*7)=Z at*;have H1:HI S (h+1) h i f' v (wr.alloc (.cells Z 55)):=⟨H.var.alloc _,H.own.alloc _,H.low,H.sg⟩;have b1:=hb.alloc ag (.cells Z 55);have s1:h+1<=(wr.alloc (.cells Z 55)).heap.size:=aS;clear H hb hs;go_wp2;generalize wr.alloc (.cells Z 55)=w1 at*
   go_loopw [6] (λvs wq=>∃(m:Nat)(out fh:Nat->qX)(v:ai),m<=i/\HI S (h+1) h (i-m) fh v wq/\Hp fh (i-m)/\qR i (Xp ix) (λx=>if x<m then out x else fh (x-m))/\(∀x,x+1<m->Hp.le (out x).k (out (x+1)).k)/\(∀x,x<i-m->0<m->Hp.le (out (m-1)).k (fh x).k)/\wq.ownsRow (h+1) 55 7 vs m (zK (λe=>S e.l) m out)/\Below h w wq/\h+1<=wq.heap.size) (λvs _=>match vs with| .slice _ m _=>i-m|_=>0)
   case atStart=>exact⟨0,f',f',v,ag,H1,hp,hR.congr λx _=>axz,λx hx=>absurd hx ag,λx _ h0=>absurd h0 ag,DD,b1,s1⟩
   case round=>
    clear H1 DD b1 s1 mk hp hR;obtain⟨m,out,fh,v,hm,H,hp,hR,WG,hle,wS,hb,hs⟩:=hrel;have kl:=akf H
    obtain⟨bs,cs,rfl⟩:∃bs cs,u6=.slice bs m cs:=by exact azW
    by_cases hmn:m<i
    .obtain⟨k,WA⟩:∃k,i-m=k+1:=⟨i-m-1,ag⟩;rw[WA]at H hp kl hle;have hgt:(0:Int)<(k:Int)+1:=ag;have kp:=akh hS (h+1) h k fh v _ H hs ag hp;unfold arK at kp;have sy:=hS.one (fh 0).l;have nx:=λ{W2 wa w5 f2 v2 v'}=>ag9 (W2:=W2) (wa:=wa) (w5:=w5) (f2:=f2) (v2:=v2) (v':=v') WA hp hR WG hle H wS hb;obtain⟨y1,y2,y3,y4,y5,y6,y7,ey⟩:=eight (hS.len (fh 0).l);rw[ey]at kp sy nx
     go_wp2_with(first
      |(go_at_call 61;(with_reducible refine kl.mono ?_);rintro r w' ⟨rfl,uf⟩;obtain rfl:=uf.symm)
      |(go_at_call 62;(with_reducible refine kp.mono ?_);rintro r w2 ⟨rfl,f2,v2,H2,Fz,CE,tX,zU,KZ⟩;have o2:=rU wS λg uO=>KZ g (wS.lt g uO).2 (λe=>by have:=(wS.lt g uO).1;omega) (λe=>D6 wS H.own aC uO e.symm))
      |(at_builtin;refine eP _ rfl _ _ 52 rfl (h+1) 55 i0 (.agg #[.int .i64 0,.int .i64 0,.int .i64 0,.int .i64 0,.slice none 0 0,.slice none 0 0,.slice none 0 0]) 7 104 underlying52 Ak yz xA wH rfl aC _ _ _ rfl (o2.alloc _) ⟨w2.heap.size,0,none⟩ 1 1 [y1,y2,y3,y4,y5,y6,y7] rfl rfl (Hq _ _ _) sy dB ag aS ?_;intro v' w5 Hf sO _;obtain⟨gq,cq,rfl,_,_⟩:=Hf.form ag))
     go_roundw
     case rel=>exact⟨m+1,λx=>if x=m then fh 0 else out x,f2,v2,nx Fz CE H2 tX zU KZ ((aT _ _).alloc (az _) _) sO Hf⟩
     case measure=>simp;omega
    .obtain rfl:m=i:=ag;rw[lL]at kl;rw[show((0:Nat):Int)=0 from rfl]at kl;have DR:qR m (Xp ix) out:=hR.congr λx hx=>by rw[ay hx]
     clear hp hle hR H
     go_wp2_with(first|(go_at_call 61;(with_reducible refine kl.mono ?_);rintro r w' ⟨rfl,uf⟩;obtain rfl:=uf.symm))
     go_ret;exact⟨awK,out,_,rfl,DR,WG,axA⟩
end
end Go.Proofs.Y
namespace Go.Proofs.Y
open Go.Proofs.Tryz
open Go.RowKit Go.Deep
def atq(w:ah)(v:ai)(xs:aK):Prop:=
 (v=.slice none 0 0/\xs=[])\/∃g off cap,v=.slice (some ⟨g,off,none⟩) xs.length cap/\∀j u,xs[j]?=some u->w.cell? ⟨g,off+j,none⟩=some u
def zV(l:aA):aK:=l.map λ(z:Nat)=>Value.int .i64 (z:Int)
theorem Uo{l:aA}{j:Nat}(h:j<l.length):(zV l)[j]?=some (.int .i64 ((l.getD j 0:Nat):Int)):=by simp[zV,cO h]
theorem FW(l:aA):(zV l).length=l.length:=by simp[zV]
def DJ(l:aA):Nat:=if l.sum<=65536 then l.sum else 65537
def Eo(k:Nat)(l:aA):Nat:=(DJ l+k-1)/k
theorem YD{α:Type}{a b:List α}(hl:a.length=b.length)(h:∀t,t<a.length->a[t]?=b[t]?):a=b:=by
 apply jk;intro i;by_cases hi:i<a.length
 .exact h i hi
 .rw[g_ ag,g_ ag]
theorem qU.len{w:ah}{v:ai}{xs:aK}(h:qU w v xs):∃ba cap,v=.slice ba xs.length cap:=by obtain⟨ba,cap,e,_⟩:=h;exact⟨ba,cap,e⟩
theorem qU.get{w:ah}{ba:aY}{cap n:Nat}{xs:aK}(h:qU w (.slice ba n cap) xs){j:Nat}{u:ai}(hj:xs[j]?=some u):∃b off,ba=some ⟨b,off,none⟩/\w.cell? ⟨b,off+j,none⟩=some u:=by obtain⟨ba',Wn,e,_,h3⟩:=h;cases e;exact h3 j u hj
theorem Ut{w w':ah}(h:∃m,w'=w.drewN m):∃m,w'.drew=w.drewN m:=by obtain⟨m,rfl⟩:=h;exact⟨m+1,rfl⟩
theorem aha(a b:List (ak))(va vb:ai)(w:ah)(ha:qU w va (xe a))(hb:qU w vb (xe b))(hl:a.length<=1048576):
  Calls prog 105 #[va,vb] w λr w'=>r=.returned (.bool (decide (a=b)))/\∃m,w'=w.drewN m:=by
 obtain⟨pa,ca,rfl⟩:=ha.len;obtain⟨pb,cb,rfl⟩:=hb.len;rw[wL]at ha hb⊢;rw[wL];by_cases hn:a.length=b.length
 .have h1:((a.length:Int)==(b.length:Int))=true:=aS;go_enter func105,ntmps105;go_wp2
  go_loopw [5,13] (λ_ vi wr=>∃j:Nat,j<=a.length/\vi=.int .i64 (j:Int)/\(∃m,wr=w.drewN m)/\∀t,t<j->a[t]?=b[t]?) (λ_ vi _=>a.length-(intOf vi).toNat)
  case atStart=>exact⟨0,ag,rfl,⟨0,rfl⟩,λt ht=>absurd ht ag⟩
  case round=>
   obtain⟨j,hj,rfl,hw,ac5⟩:=hrel;by_cases qK:j<a.length
   .have Am:(j:Int)<(a.length:Int):=ag;have aaG:(j:Int)<(b.length:Int):=ag;obtain⟨ga,oa,rfl,c1⟩:=ha.get (GV qK);obtain⟨gb,ob,rfl,c2⟩:=hb.get (GV (l:=b) (j:=j) ag);replace c1:wr.cell? ⟨ga,oa+j,none⟩=some (.string ⟨(a.getD j []).toArray⟩):=by obtain⟨m,rfl⟩:=hw;exact c1
    replace c2:wr.cell? ⟨gb,ob+j,none⟩=some (.string ⟨(b.getD j []).toArray⟩):=by obtain⟨m,rfl⟩:=hw;exact c2
    by_cases e:a.getD j []=b.getD j []
    .have hs:∀t,t<j+1->a[t]?=b[t]?:=λt ht=>by
      by_cases et:t=j
      .exact azq
      .exact ac5 t ag
     rw[e]at c1;clear hb ha
     go_wp2_with fail
     go_region;go_wp2
     go_roundw
     case rel=>exact⟨j+1,ag,bU,Ut hw,hs⟩
     case measure=>simp[intOf];omega
    .have hne:(a.getD j []==b.getD j [])=false:=oJ.2 e;have hd:decide (a=b)=false:=fD λh=>e jP
     clear hb ha;generalize a.getD j []=x at*;generalize b.getD j []=y at*
     go_wp2_with fail
     go_region;go_wp2;go_ret;exact⟨avu,Ut hw⟩
   .exact azi
 .have h1:((a.length:Int)==(b.length:Int))=false:=aS;have hd:decide (a=b)=false:=fD λh=>hn jP
  go_enter func105,ntmps105;go_wp2;go_ret;exact⟨avu,0,rfl⟩
theorem ahb(a b:aA)(va vb:ai)(w:ah)(ha:qU w va (zV a))(hb:qU w vb (zV b))(hl:a.length<=1048576):
  Calls prog 106 #[va,vb] w λr w'=>r=.returned (.bool (decide (a=b)))/\∃m,w'=w.drewN m:=by
 obtain⟨pa,ca,rfl⟩:=ha.len;obtain⟨pb,cb,rfl⟩:=hb.len;rw[FW]at ha hb⊢;rw[FW];by_cases hn:a.length=b.length
 .have h1:((a.length:Int)==(b.length:Int))=true:=aS;go_enter func106,ntmps106;go_wp2
  go_loopw [5,13] (λ_ vi wr=>∃j:Nat,j<=a.length/\vi=.int .i64 (j:Int)/\(∃m,wr=w.drewN m)/\∀t,t<j->a[t]?=b[t]?) (λ_ vi _=>a.length-(intOf vi).toNat)
  case atStart=>exact⟨0,ag,rfl,⟨0,rfl⟩,λt ht=>absurd ht ag⟩
  case round=>
   obtain⟨j,hj,rfl,hw,ac5⟩:=hrel;by_cases qK:j<a.length
   .have Am:(j:Int)<(a.length:Int):=ag;have aaG:(j:Int)<(b.length:Int):=ag;obtain⟨ga,oa,rfl,c1⟩:=ha.get (Uo qK);obtain⟨gb,ob,rfl,c2⟩:=hb.get (Uo (l:=b) (j:=j) ag);replace c1:wr.cell? ⟨ga,oa+j,none⟩=some (.int .i64 ((a.getD j 0:Nat):Int)):=by obtain⟨m,rfl⟩:=hw;exact c1
    replace c2:wr.cell? ⟨gb,ob+j,none⟩=some (.int .i64 ((b.getD j 0:Nat):Int)):=by obtain⟨m,rfl⟩:=hw;exact c2
    by_cases e:a.getD j 0=b.getD j 0
    .have hs:∀t,t<j+1->a[t]?=b[t]?:=λt ht=>by
      by_cases et:t=j
      .exact azq
      .exact ac5 t ag
     rw[e]at c1;clear hb ha
     go_wp2_with fail
     go_region;go_wp2
     go_roundw
     case rel=>exact⟨j+1,ag,bU,Ut hw,hs⟩
     case measure=>simp[intOf];omega
    .have hne:(((a.getD j 0:Nat):Int)==((b.getD j 0:Nat):Int))=false:=oJ.2 λx=>e ag
     have hd:decide (a=b)=false:=fD λh=>e jP
     clear hb ha;generalize a.getD j 0=x at*;generalize b.getD j 0=y at*
     go_wp2_with fail
     go_region;go_wp2;go_ret;exact⟨avu,Ut hw⟩
   .exact azi
 .have h1:((a.length:Int)==(b.length:Int))=false:=aS;have hd:decide (a=b)=false:=fD λh=>hn jP
  go_enter func106,ntmps106;go_wp2;go_ret;exact⟨avu,0,rfl⟩
def eR:Option (Nat×Nat)->Nat
 |none=>0
 |some x=>x.1
def Qi(r s:Option (Nat×Nat)):Option (Nat×Nat):=match r with|none=>s|some x=>some x
def Wu(r:Option (Nat×Nat)):Prop:=∀x,r=some x->x.1≠0
theorem GK:Wu none:=λ_ h=>f_
theorem EC{x y:Nat}(h:x≠0):Wu (some (x,y)):=λ_ e=>by cases e;exact h
theorem Wu.or{r s:Option (Nat×Nat)}(h:Wu r)(h':Wu s):Wu (Qi r s):=by
 cases r with
 |none=>exact h'
 |some x=>exact h
theorem Qv(l:ak):∀(ws:ak)(a:Nat),Wu (DK l a ws)
 |[],_=>GK
 |c::ws,a=>by
  unfold DK;split
  .exact EC aC
  .split
   .exact Qv l ws (a+1)
   .exact EC aC
theorem ND(l:ak)(a n:Nat):Wu (AA l a n):=by
 unfold AA;split
 .exact EC aC
 .split
  .exact GK
  .exact EC aC
def zL(ok:Bool)(x y:Nat):Option (Nat×Nat):=if ok then none else some (x,y)
theorem xO{ok:Bool}{x y:Nat}(h:x≠0):Wu (zL ok x y):=by
 unfold zL;split
 .exact GK
 .exact EC h
section
variable {sb:Nat}{v:ai}{at_:Nat}{r:Option (Nat×Nat)}{w:ah}
end
section
variable {sb bb bo cap:Nat}{l:ak}{at_:Nat}{r:Option (Nat×Nat)}{w:ah}
end
def BU:ak:=[67,65,73,82,78,49]
def UD(r:Option (Nat×Nat))(k n i z c m ln zz:Nat):Option (Nat×Nat):=
 Qi (Qi (Qi (Qi (Qi (Qi (Qi (Qi r (zL (decide (1<=k/\k<=128)) 1 6)) (zL (decide (k<=n/\n<=128)) 1 7)) (zL (decide (i<n)) 1 8)) (zL (decide (z=0)) 1 9)) (zL (decide (1<=c/\c<=65536)) 1 10)) (zL (decide (4<=m/\m<=300000)) 1 14)) (zL (decide (ln<=65536)) 1 18)) (zL (decide (zz=0)) 1 22)
def zi(k n i c:Nat)(a b d:ai):aK:=[.int .i64 (k:Int),.int .i64 (n:Int),.int .i64 (i:Int),.int .i64 (c:Int),a,b,d]
theorem arL:(prog.info? 9).map (λi=>(i.zero,i.size,i.bytes))=some (some (.string ⟨#[]⟩),1,16):=aj
theorem arM:(prog.info? 3).map (λi=>(i.zero,i.size,i.bytes))=some (some (.int .i64 0),1,8):=aj
def DT(l:List (ak)):aK:=l.map λs=>Value.string ⟨s.toArray⟩
theorem Z_{l:List (ak)}{j:Nat}(h:j<l.length):(DT l)[j]?=some (.string ⟨(l.getD j []).toArray⟩):=by simp[DT,cO h]
def vO(a b:ak):Bool:=Op.bytesLess a b||a==b
def Jr(l:ak)(en:Nat):Nat->Nat->List (ak)->aA->Except (Nat×Nat) (List (ak)×aA×Nat)
 |0,a,ns,zs=>.ok (ns,zs,a)
 |c+1,a,ns,zs=>
  if en<a+2 then .error (7,a)
  else if le l a 2<1\/255<le l a 2\/en<a+6+le l a 2 then .error (7,a)
  else if 0<ns.length/\vO (part l (a+2) (le l a 2)) (ns.getD (ns.length-1) [])=true then .error (7,a+2)
  else if 65536<DJ (zs++[le l (a+2+le l a 2) 4])then .error (7,a+2+le l a 2)
  else Jr l en c (a+6+le l a 2) (ns++[part l (a+2) (le l a 2)]) (zs++[le l (a+2+le l a 2) 4])
structure ShX(w:ah)(xb:Nat)(k n i c:Nat)(vN vS vC:ai):Prop where
 row:ql w xb (zi k n i c vN vS vC) 55
theorem vU{w w':ah}{base e size n:Nat}{v:ai}{xs:aK}(h:w.ownsRow base e size v n xs)(hh:∀g,v.ownBlock=some g->w'.heap[g]?=w.heap[g]?):w'.ownsRow base e size v n xs:=by
 refine⟨h.1,?_⟩;rcases h.2 with x|⟨g,cap,cur,rfl,h1,h2,h3⟩
 .exact .inl x
 .exact .inr ⟨g,cap,cur,rfl,h1,(hh g rfl).trans h2,h3⟩
def QW(a b:ai):Prop:=∀g,a.ownBlock=some g->b.ownBlock≠some g
theorem QX{w:ah}{bb bo:Nat}{l:ak}(h:Dv w bb bo l)(k:Nat)(hk:l.length=k)(cap:Nat):(convert 34 9 (.slice (some ⟨bb,bo,none⟩) k cap)).run prog w=.ok (.string ⟨l.toArray⟩) w:=by subst hk;refine run_convert_bytes_back w 34 9 5 ⟨bb,bo,none⟩ cap l underlying34 underlying5 underlying9 (λj hj=>?_);rw[H7,h j hj];simp[tZ,cO hj]
def agd(en:Nat)(r:Except (Nat×Nat) (List (ak)×aA×Nat)):Except (Nat×Nat) (List (ak)×aA):=
 match r with
 | .error e=>.error e
 | .ok (ns,zs,a)=>if a=en then .ok (ns,zs)else .error (7,a)
def EH(l:ak)(m:Nat):Except (Nat×Nat) (List (ak)×aA):=
 match AA l 32 m with
 |some e=>.error e
 |none=>
  if 1000<le l 32 4 then .error (7,32)
  else agd (32+m) (Jr l (32+m) (le l 32 4) 36 [] [])
theorem ahc{l:ak}{a n:Nat}(h:AA l a n=none):a+n+8<=l.length:=by
 unfold AA at h;split at h
 .cases h
 .omega
section
end
theorem afE(x:ByteArray):∀u∈[Value.string x],u.oneCell'=true:=avy
theorem afF(x:Int):∀u∈[Value.int .i64 x],u.oneCell'=true:=avy
theorem ahd(l:List (ak))(s:ak):DT l++[.string ⟨s.toArray⟩]=DT (l++[s]):=by simp[DT]
theorem ahe(l:aA)(z:Nat):zV l++[.int .i64 (z:Int)]=zV (l++[z]):=by simp[zV]
theorem BV{w:ah}{base e n:Nat}{v:ai}{xs:aK}(h:w.ownsRow base e 1 v n xs)(hn:0<n):∃g cap,v=.slice (some ⟨g,0,none⟩) n cap:=by
 rcases h.2 with⟨_,h0⟩|⟨g,c,_,h1,_⟩
 .omega
 .exact⟨g,c,h1⟩
theorem SE(w:ah)(b:Nat)(x:ai)(t:aF)(hb:b=w.heap.size):∀j u,[x][j]?=some u->(w.alloc (.cells #[x] t)).cell? ((⟨b,0,none⟩:Addr).add j)=some u:=by subst hb;exact cell_one_new w x t
section
end
def Iq(en:Int)(a m:Nat):ak->Option (Nat×Nat)
 |[]=>none
 |b::p=>if(m:Int)<en\/b.toNat=0 then Iq en (a+1) (m+1) p else some (8,a)
theorem ahf(en:Int)(b:UInt8):∀(p:ak)(a m:Nat),Iq en a m (p++[b])=Qi (Iq en a m p) (zL (decide (((m+p.length:Nat):Int)<en\/b.toNat=0)) 8 (a+p.length))
 |[],a,m=>by
  by_cases h:(m:Int)<en\/b.toNat=0
  .simp[Iq,Qi,zL,h]
  .simp[Iq,Qi,zL,h]
 |c::p,a,m=>by
  simp only[bT,Iq,dJ];by_cases h:(m:Int)<en\/c.toNat=0
  .rw[ay h,ay h,ahf en b p (a+1) (m+1)];rw[show m+1+p.length=m+(p.length+1)by omega,show a+1+p.length=a+(p.length+1)by omega]
  .rw[au h,au h];rfl
theorem X7(en:Int):∀(p:ak)(a m:Nat),Wu (Iq en a m p)
 |[],_,_=>GK
 |b::p,a,m=>by
  unfold Iq;split
  .exact X7 en p _ _
  .exact EC aC
def yX(l:ak)(low:Bool)(ch ln:Nat)(en:Int):Nat->Nat->ak->Except (Nat×Nat) (ak×Nat)
 |0,a,qH=>.ok (qH,a)
 |f+1,a,qH=>
  if ln<=qH.length then .ok (qH,a)
  else match AA l a (min (ln-qH.length) ch)with
   |some e=>.error e
   |none=>match(if low then Iq en a qH.length (part l a (min (ln-qH.length) ch))else none)with
    |some e=>.error e
    |none=>yX l low ch ln en f (a+min (ln-qH.length) ch+8) (qH++part l a (min (ln-qH.length) ch))
section
variable (sb xb bb bo cap:Nat)(hbs:bb≠sb)(hbx:bb≠xb)(hxs:xb≠sb)(l:ak)(hl:l.length<2^60)(Ci:l.length<=cap)(k n i ch at0:Nat)(KP:1<=k)(P7:k<=128)(hi:i<128)(vN vS:ai)(zs:aA)(hz:∀j,zs.getD j 0<2^63)(hzl:zs.length<2^60)
  (ln:Nat) (Me:ln<=65537) (w:ah) (hx:ShX w xb k n i ch vN vS (.slice none 0 0)) (hS:atq w vS (zV zs)) (hb:Dv w bb bo l) (WR:bb<w.heap.size)
theorem uF{w:ah}{base e n:Nat}{v:ai}{xs:aK}(h:w.ownsRow base e 1 v n xs):∃ba cap,v=.slice ba n cap:=by
 rcases h.2 with⟨h1,h0⟩|⟨g,c,_,h1,_⟩
 .exact⟨none,0,by rw[h1,h0]⟩
 .exact⟨_,c,h1⟩
end
def vH:ak:=[68,79,78,69]
structure xG where
 k:Nat
 n:Nat
 i:Nat
 c:Nat
 names:List (ak)
 sizes:aA
 qH:ak
def GI(l:ak):Option (Nat×Nat):=
 match Qi (DK l 0 BU) (AA l 0 24)with
 |some x=>some x
 |none=>UD none (le l 6 1) (le l 7 1) (le l 8 1) (le l 9 1) (le l 10 4) (le l 14 4) (le l 18 4) (le l 22 2)
def qY(l:ak):Except (Nat×Nat) xG:=
 match GI l with
 |some e=>.error e
 |none=>
  match EH l (le l 14 4)with
  | .error e=>.error e
  | .ok (ns,zs)=>
    if le l 18 4=Eo (le l 6 1) zs then
     match yX l (decide (le l 8 1<le l 6 1)) (le l 10 4) (le l 18 4) ((DJ zs:Int)-((le l 8 1*Eo (le l 6 1) zs:Nat):Int)) (le l 18 4) (32+le l 14 4+8) []with
     | .error e=>.error e
     | .ok (qH,a)=>
       match Qi (DK l a vH) (zL (decide (l.length<=a+4)) 9 (a+4))with
       |some e=>.error e
       |none=>.ok ⟨le l 6 1,le l 7 1,le l 8 1,le l 10 4,ns,zs,qH⟩
    else .error (7,18)
theorem NW{k n i z c m ln zz:Nat}(h:UD none k n i z c m ln zz=none):1<=k/\k<=128/\k<=n/\n<=128/\i<n/\z=0/\1<=c/\c<=65536/\4<=m/\m<=300000/\ln<=65536/\zz=0:=by
 have key:∀{r:Option (Nat×Nat)}{ok:Bool}{x y:Nat},Qi r (zL ok x y)=none->r=none/\ok=true:=by
  intro r ok x y h;cases r with
  |some _=>cases h
  |none=>cases ok with
   |true=>exact⟨rfl,rfl⟩
   |false=>cases h
 unfold UD at h;obtain⟨h,h8⟩:=key h;obtain⟨h,h7⟩:=key h;obtain⟨h,h6⟩:=key h;obtain⟨h,h5⟩:=key h;obtain⟨h,h4⟩:=key h;obtain⟨h,h3⟩:=key h;obtain⟨h,h2⟩:=key h;obtain⟨_,h1⟩:=key h;simp only[iP]at*;omega
def Ep:ai:=.agg (zi 0 0 0 0 (.slice none 0 0) (.slice none 0 0) (.slice none 0 0)).toArray
def Qq(l:ak)(w:ah)(q:Ending)(w':ah):Prop:=
 Below w.heap.size w w'/\
 match qY l with
 | .error e=>q=.returned (.tuple #[Ep,.int .i64 (e.1:Int),.int .i64 (e.2:Int)])
 | .ok s=>∃vN vS vC,q=.returned (.tuple #[.agg (zi s.k s.n s.i s.c vN vS vC).toArray,.int .i64 0,.int .i64 0])/\
   w'.ownsRow w.heap.size 9 1 vN s.names.length (DT s.names)/\w'.ownsRow w.heap.size 3 1 vS s.sizes.length (zV s.sizes)/\w'.ownsRow w.heap.size 5 1 vC s.qH.length (sJ s.qH)
theorem Bi{P:aN}{fn:Func}{p u t:Tmp}{ty:aF}(h:fn.results=#[.cell p ty,.tmp u,.tmp t])(tmps:aB)(w:ah)(g:Nat)(et:aF)(cs:aB)(fr:Nat×Nat)(d:TypeDesc)
  (hp:tmps.getD p undef=.pointer (some ⟨g,0,none⟩)) (hg:w.heap[g]?=some (.cells cs et fr))
  (hu:P.underlying ty=some d) (hd:(match d with| .struct _| .array _ _=>true|_=>false)=true) (hi:(P.info? ty).map (·.size)=some cs.size):
  (results fn tmps).run P w=.ok (.tuple #[.agg cs,tmps.getD u undef,tmps.getD t undef]) w:=by
 have hp':tmps[p]?.getD undef=.pointer (some ⟨g,0,none⟩):=by simpa using hp
 exact azN
def OE(s t:xG):Bool:=((s.k:Int)==(t.k:Int))&&((s.n:Int)==(t.n:Int))&&((s.c:Int)==(t.c:Int))&&decide (s.names=t.names)&&decide (s.sizes=t.sizes)
def WQ(s:xG)(vN vS vC:ai):aK:=[.int .i64 (s.k:Int),.int .i64 (s.n:Int),.int .i64 (s.i:Int),.int .i64 (s.c:Int),vN,vS,vC]
theorem ahg(s t:xG)(vN vS vC VB VC Gx:ai)(w:ah)(hN:qU w vN (xe s.names))(hS:qU w vS (zV s.sizes))(hN':qU w VB (xe t.names))(hS':qU w VC (zV t.sizes))(hl:s.names.length<=1048576)(hl2:s.sizes.length<=1048576):
  Calls prog 63 #[.agg (WQ s vN vS vC).toArray,.agg (WQ t VB VC Gx).toArray] w λr w'=>r=.returned (.bool (OE s t))/\Below w.heap.size w w':=by
 unfold WQ;have b0:Below w.heap.size w (w.alloc (.cells #[.int .i64 (s.k:Int),.int .i64 (s.n:Int),.int .i64 (s.i:Int),.int .i64 (s.c:Int),vN,vS,vC] 55)):=(aT _ _).alloc (az _) _;have b1:=b0.alloc b0.size (.cells #[.int .i64 (t.k:Int),.int .i64 (t.n:Int),.int .i64 (t.i:Int),.int .i64 (t.c:Int),VB,VC,Gx] 55);have k1:=aha s.names t.names vN VB _ (hN.below b1) (hN'.below b1) hl;have k2:=λm=>ahb s.sizes t.sizes vS VC _ ((hS.below b1).drewN m) ((hS'.below b1).drewN m) hl2
 go_enter func63,ntmps63;rcases h1:((s.k:Int)==(t.k:Int))with _|_
 .go_wp2;go_ret;exact⟨by rw[OE,h1];rfl,b1⟩
 rcases h2:((s.n:Int)==(t.n:Int))with _|_
 .go_wp2;go_ret;exact⟨by rw[OE,h1,h2];rfl,b1⟩
 rcases h3:((s.c:Int)==(t.c:Int))with _|_
 .go_wp2;go_ret;exact⟨by rw[OE,h1,h2,h3];rfl,b1⟩
 rcases h4:decide (s.names=t.names)with _|_
 .rw[h4]at k1
  go_wp2_with(first|(go_at_call 105;(with_reducible refine k1.mono ?_);rintro r w2 ⟨rfl,yf⟩;obtain⟨m,yf⟩:=yf;obtain rfl:=yf.symm))
  exact azv
 rw[h4]at k1
 go_wp2_with(first
  |(go_at_call 105;(with_reducible refine k1.mono ?_);rintro r w2 ⟨rfl,yf⟩;obtain⟨m,yf⟩:=yf;obtain rfl:=yf.symm)
  |(go_at_call 106;(with_reducible refine(k2 m).mono ?_);rintro r w3 ⟨rfl,Qo⟩;obtain⟨m',Qo⟩:=Qo;obtain rfl:=Qo.symm))
 exact azv
