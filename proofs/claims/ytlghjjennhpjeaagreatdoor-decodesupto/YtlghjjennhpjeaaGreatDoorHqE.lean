import Derived.Deep.MidRow
import Derived.Test.YtlghjjennhpjeaaGreatDoorEnE
set_option maxHeartbeats 8000000
set_option maxRecDepth 100000
namespace Go.Proofs.Y
open Go.Proofs.Tryz
open Go.RowKit Go.Deep Go.Hp
section
variable {c:rU->aK}{s:Nat}
def zF(c:rU->aK)(n:Nat)(f:Nat->rU):aK:=(List.range n).flatMap λi=>c (f i)
theorem zX(n:Nat)(f:Nat->rU):zF c (n+1) f=zF c n f++c (f n):=by unfold zF;rw[dP,pg];simp
theorem vw(hc:∀e,(c e).length=s)(n:Nat)(f:Nat->rU):(zF c n f).length=n*s:=by
 induction n with
 |zero=>simp[zF]
 |succ n ih=>rw[zX,bM,ih,hc,fP]
theorem Qm(hc:∀e,(c e).length=s){n i p:Nat}(f:Nat->rU)(hi:i<n)(hp:p<s):(zF c n f)[i*s+p]?=(c (f i))[p]?:=by
 induction n with
 |zero=>omega
 |succ n ih=>
  rw[zX];by_cases e:i=n
  .subst e;rw[ji mi,vw hc,iJ]
  .have:i*s+s<=n*s:=by rw[<-fP];exact jI s ag
   rw[ig mi,ih ag]
theorem Rn{n:Nat}{f g:Nat->rU}(h:∀i,i<n->f i=g i):zF c n f=zF c n g:=by
 induction n with
 |zero=>rfl
 |succ n ih=>rw[zX,zX,ih λi hi=>h i ag,h n ag]
def agL(xs:aK)(p:Nat):aK->aK
 |[]=>xs
 |v::r=>agL (xs.set p v) (p+1) r
theorem abz:∀(vs xs:aK)(p m:Nat),p+vs.length<=xs.length->(agL xs p vs)[m]?=if p<=m/\m<p+vs.length then vs[m-p]? else xs[m]?
 |[],xs,p,m,_=>by rw[agL,au aA]
 |v::r,xs,p,m,h=>by
  simp only[dQ]at h⊢;rw[agL,abz r _ _ _ (by rw[List.length_set];omega)];by_cases e:m=p
  .subst e;rw[au ag,ax ag,nJ,ax rfl,ax ag,mZ];rfl
  .by_cases e2:p<=m/\m<p+(r.length+1)
   .rw[ax ag,ax e2,show m-p=(m-(p+1))+1 by omega];rfl
   .rw[au ag,au e2,List.getElem?_set_ne (λx=>e x.symm)]
theorem agM(hc:∀e,(c e).length=s){n i:Nat}(f:Nat->rU)(hi:i<n)(e:rU):agL (zF c n f) (i*s) (c e)=zF c n (λx=>if x=i then e else f x):=by
 have hle:i*s+s<=n*s:=awR;apply jk;intro m;rw[abz _ _ _ _ (by rw[hc,vw hc];exact hle),hc];by_cases hm:m<n*s
 .have hs:0<s:=Nat.pos_of_ne_zero λe=>by rw[e]at hm;simp at hm
  have hq:m=m/s*s+m%s:=by rw[fQ];exact(lX m s).symm
  have hp:=jb m hs;have hqn:m/s<n:=(auO hs).2 hm;generalize m/s=q at*;generalize m%s=p at*;subst hq;rw[Qm hc f hqn hp,Qm hc _ hqn hp];by_cases e1:q=i
  .subst e1;rw[ax ⟨ag,ag⟩,ax rfl,iJ]
  .rw[au,au e1];rintro⟨h1,h2⟩;rcases Nat.lt_or_gt_of_ne e1 with h|h
   .have:q*s+s<=i*s:=awS;omega
   .have:i*s+s<=q*s:=awS;omega
 .rw[au ag,h_ mi,h_ mi]
theorem XW{B t s g cap n:Nat}:∀(vs:aK)(p:Nat)(xs:aK)(w:ah),w.ownsRow B t s (.slice (some ⟨g,0,none⟩) n cap) n xs->(w.setCells g p vs).ownsRow B t s (.slice (some ⟨g,0,none⟩) n cap) n (agL xs p vs)
 |[],_,_,_,h=>h
 |v::r,p,_,_,h=>XW r (p+1) _ _ (h.stored p v).1
theorem xK(hc:∀e,(c e).length=s){w:ah}{B t g cap n i:Nat}{f:Nat->rU}(h:w.ownsRow B t s (.slice (some ⟨g,0,none⟩) n cap) n (zF c n f))(hi:i<n):w.rangeAt g (i*s) (c (f i)):=λj v hv=>by have hj:=(fB.1 hv).1;rw[hc]at hj;have:i*s+s<=n*s:=awR;rw[h.cellAt _ ag,Qm hc _ hi hj];exact hv
end
def zY(e:rU):Nat:=(e.k.headD 0).toNat
def Sg(n:Nat)(f:Nat->rU):Prop:=∀i,i<n->∃b,(f i).k=[b]
theorem adE{e e':rU}(h:∃b,e.k=[b])(h':∃b,e'.k=[b]):Hp.lt e.k e'.k=decide (((zY e:Nat):Int)<((zY e':Nat):Int)):=by obtain⟨a,ha⟩:=h;obtain⟨b,hb⟩:=h';simp only[zY,ha,hb,List.headD_cons,Hp.lt,Op.bytesLess,Bool.and_false,Bool.or_false,Int.ofNat_lt,iZ]
structure SB(S:Nat->aK):Prop where
 len:∀i,(S i).length=7
 one:∀i,∀u∈S i,u.oneCell'=true
def JQ(S:Nat->aK)(e:rU):aK:=.int .i64 ((zY e:Nat):Int)::S e.l
theorem wJ{S:Nat->aK}(h:SB S)(e:rU):(JQ S e).length=8:=by simp[JQ,h.len]
theorem ajH{S:Nat->aK}(h:SB S)(e:rU):∀u∈JQ S e,u.oneCell'=true:=by
 intro u hu;rcases dK.1 hu with rfl|hu
 .rfl
 .exact h.one _ u hu
structure HI(S:Nat->aK)(B h n:Nat)(f:Nat->rU)(v:ai)(w:ah):Prop where
 var:w.rowIs h 112 1 (λ_=>v)
 own:w.ownsRow B 144 8 v n (zF (JQ S) n f)
 low:h<B
 sg:Sg n f
section
variable {S:Nat->aK}{B h n:Nat}{f:Nat->rU}{v:ai}{w:ah}
theorem HI.form(H:HI S B h n f v w)(hn:0<n):∃g cap,v=.slice (some ⟨g,0,none⟩) n cap/\B<=g/\n<=cap/\cap<=maxLen:=by
 rcases H.own.2 with⟨_,rfl⟩|⟨g,cap,cur,h1,h2,h3,h4,h5,_⟩
 .omega
 .exact⟨g,cap,h1,h2,h4,h5⟩
theorem HI.slice(H:HI S B h n f v w):∃bo cap,v=.slice bo n cap:=by rcases H.own.2 with⟨rfl,rfl⟩|⟨g,cap,_,rfl,_⟩<;>exact⟨_,_,rfl⟩
theorem HI.key(hS:SB S){g cap:Nat}(H:HI S B h n f (.slice (some ⟨g,0,none⟩) n cap) w){i:Nat}(hi:i<n):w.cell? ⟨g,i*8,none⟩=some (.int .i64 ((zY (f i):Nat):Int)):=xK (wJ hS) H.own hi 0 _ rfl
theorem HI.drew(H:HI S B h n f v w)(m:Nat):HI S B h n f v (w.drewN m):=⟨H.var,H.own,H.low,H.sg⟩
theorem Rq(hS:SB S)(B h n i j:Nat)(f:Nat->rU)(v:ai)(w:ah)(H:HI S B h n f v w)(PV:j<n->i<n)(hj:j<4611686018427387904):
  Calls prog 92 #[.pointer (some ⟨h,0,none⟩),.int .i64 ((i:Nat):Int),.int .i64 ((j:Nat):Int)] w λe w'=>e=.returned (.int .i64 ((Zx n f i j:Nat):Int))/\∃m,w'=w.drewN m:=by
 have a0:=H.var.cell (i:=0) ag;by_cases hjn:j<n
 .obtain⟨g,cap,rfl,hg,hnc,sJ⟩:=H.form ag;have hd:decide ((j:Int)<(n:Int))=true:=aJ;have NZ:(j:Int)<(n:Int):=ag;have IC:(i:Int)<(n:Int):=by have:=PV hjn;omega
  have cj:=H.key hS hjn;have ci:=H.key hS (PV hjn);have hq:=adE (H.sg j hjn) (H.sg i (PV hjn));have hr:Zx n f i j=if Hp.lt (f j).k (f i).k then j else i:=by unfold Zx;simp[hjn]
  rw[hr,hq];clear H PV hr hq;by_cases hk:((zY (f j):Nat):Int)<((zY (f i):Nat):Int)
  .have hk':decide (((zY (f j):Nat):Int)<((zY (f i):Nat):Int))=true:=gV hk;rw[hk',ax rfl];go_enter func92,ntmps92
   go_wp2_with fail
   go_big_quiet (fail)
   exact axD
  .have hk':decide (((zY (f j):Nat):Int)<((zY (f i):Nat):Int))=false:=dY hk;rw[hk',au aA];go_enter func92,ntmps92
   go_wp2_with fail
   go_big_quiet (fail)
   exact axD
 .have hr:Zx n f i j=i:=by unfold Zx;rw[au (λx=>hjn x.1)]
  rw[hr];have hd:decide ((j:Int)<(n:Int))=false:=aJ;obtain⟨bo,cap,rfl⟩:=H.slice;clear H PV;go_enter func92,ntmps92
  go_wp2_with fail
  go_big_quiet (fail)
  exact axD
theorem JR{o:Option Nat}{a:ah}{g:Nat}(hg:o=some g):∀(vs:aK)(p:Nat)(w:ah),Bt o a w->Bt o a (w.setCells g p vs)
 |[],_,_,h=>h
 |v::r,p,_,h=>JR hg r (p+1) _ (h.set hg v)
theorem Qn{b g:Nat}{t:aG}{n:Nat}{f:Nat->ai}(hne:b≠g):∀(vs:aK)(p:Nat)(w:ah),w.rowIs b t n f->(w.setCells g p vs).rowIs b t n f
 |[],_,_,h=>h
 |v::r,p,_,h=>Qn hne r (p+1) _ (h.setOther (a:=⟨g,p,none⟩) hne v)
theorem HI.abA(H:HI S B h n f v w):HI S B h n f v w.drew:=⟨H.var,H.own,H.low,H.sg⟩
theorem Bt.abA{o:Option Nat}{a w:ah}(h:Bt o a w):Bt o a w.drew:=⟨h.os,h.tape,h.output,h.size,h.block⟩
theorem HI.put(hS:SB S){g cap i:Nat}(H:HI S B h n f (.slice (some ⟨g,0,none⟩) n cap) w)(hi:i<n)(hg:B<=g){e:rU}(he:∃b,e.k=[b]):HI S B h n (λx=>if x=i then e else f x) (.slice (some ⟨g,0,none⟩) n cap) (w.setCells g (i*8) (JQ S e)):=by
 have hne:h≠g:=by have:=H.low;omega
 refine⟨Qn hne _ _ _ H.var,?_,H.low,λx hx=>?_⟩
 .rw[<-agM (wJ hS) f hi e];exact XW _ _ _ _ H.own
 .split
  .exact he
  .exact H.sg x hx
theorem apL(f:Nat->rU)(i j:Nat):(λx=>if x=j then f i else if x=i then f j else f x)=swp f i j:=by
 funext x
 unfold swp;by_cases e1:x=i
 .by_cases e2:x=j
  .rw[ax e2,ax e1,<-e1,<-e2]
  .rw[au e2,ax e1,ax e1]
 .rw[au e1,au e1]
theorem adF{w:ah}{B t g cap n o:Nat}{xs:aK}(H:w.ownsRow B t 8 (.slice (some ⟨g,0,none⟩) n cap) n xs)(ho:o+8<=n*8)(x0 x1 x2 x3 x4 x5 x6 _x7:ai):
  ((∃y,w.cell? ⟨g,o,none⟩=some y)/\w.frozen? ⟨g,o,none⟩=false)/\((∃y,(w.setCell ⟨g,o,none⟩ x0).cell? ⟨g,o+1,none⟩=some y)/\(w.setCell ⟨g,o,none⟩ x0).frozen? ⟨g,o+1,none⟩=false)/\((∃y,((w.setCell ⟨g,o,none⟩ x0).setCell ⟨g,o+1,none⟩ x1).cell? ⟨g,o+2,none⟩=some y)/\((w.setCell ⟨g,o,none⟩ x0).setCell ⟨g,o+1,none⟩ x1).frozen? ⟨g,o+2,none⟩=false)/\((∃y,(((w.setCell ⟨g,o,none⟩ x0).setCell ⟨g,o+1,none⟩ x1).setCell ⟨g,o+2,none⟩ x2).cell? ⟨g,o+3,none⟩=some y)/\(((w.setCell ⟨g,o,none⟩ x0).setCell ⟨g,o+1,none⟩ x1).setCell ⟨g,o+2,none⟩ x2).frozen? ⟨g,o+3,none⟩=false)/\((∃y,((((w.setCell ⟨g,o,none⟩ x0).setCell ⟨g,o+1,none⟩ x1).setCell ⟨g,o+2,none⟩ x2).setCell ⟨g,o+3,none⟩ x3).cell? ⟨g,o+4,none⟩=some y)/\((((w.setCell ⟨g,o,none⟩ x0).setCell ⟨g,o+1,none⟩ x1).setCell ⟨g,o+2,none⟩ x2).setCell ⟨g,o+3,none⟩ x3).frozen? ⟨g,o+4,none⟩=false)/\((∃y,(((((w.setCell ⟨g,o,none⟩ x0).setCell ⟨g,o+1,none⟩ x1).setCell ⟨g,o+2,none⟩ x2).setCell ⟨g,o+3,none⟩ x3).setCell ⟨g,o+4,none⟩ x4).cell? ⟨g,o+5,none⟩=some y)/\(((((w.setCell ⟨g,o,none⟩ x0).setCell ⟨g,o+1,none⟩ x1).setCell ⟨g,o+2,none⟩ x2).setCell ⟨g,o+3,none⟩ x3).setCell ⟨g,o+4,none⟩ x4).frozen? ⟨g,o+5,none⟩=false)/\((∃y,((((((w.setCell ⟨g,o,none⟩ x0).setCell ⟨g,o+1,none⟩ x1).setCell ⟨g,o+2,none⟩ x2).setCell ⟨g,o+3,none⟩ x3).setCell ⟨g,o+4,none⟩ x4).setCell ⟨g,o+5,none⟩ x5).cell? ⟨g,o+6,none⟩=some y)/\((((((w.setCell ⟨g,o,none⟩ x0).setCell ⟨g,o+1,none⟩ x1).setCell ⟨g,o+2,none⟩ x2).setCell ⟨g,o+3,none⟩ x3).setCell ⟨g,o+4,none⟩ x4).setCell ⟨g,o+5,none⟩ x5).frozen? ⟨g,o+6,none⟩=false)/\((∃y,(((((((w.setCell ⟨g,o,none⟩ x0).setCell ⟨g,o+1,none⟩ x1).setCell ⟨g,o+2,none⟩ x2).setCell ⟨g,o+3,none⟩ x3).setCell ⟨g,o+4,none⟩ x4).setCell ⟨g,o+5,none⟩ x5).setCell ⟨g,o+6,none⟩ x6).cell? ⟨g,o+7,none⟩=some y)/\(((((((w.setCell ⟨g,o,none⟩ x0).setCell ⟨g,o+1,none⟩ x1).setCell ⟨g,o+2,none⟩ x2).setCell ⟨g,o+3,none⟩ x3).setCell ⟨g,o+4,none⟩ x4).setCell ⟨g,o+5,none⟩ x5).setCell ⟨g,o+6,none⟩ x6).frozen? ⟨g,o+7,none⟩=false):=by
 have k:∀(w:ah)(xs:aK)(p:Nat),w.ownsRow B t 8 (.slice (some ⟨g,0,none⟩) n cap) n xs->p<n*8->(∃y,w.cell? ⟨g,p,none⟩=some y)/\w.frozen? ⟨g,p,none⟩=false:=λw xs p o hp=>⟨⟨xs[p]'(by rw[o.1];exact hp),by rw[o.cellAt p hp];simp⟩,o.frozenAt p⟩
 have h1:=(H.stored (o) x0).1;have h2:=(h1.stored (o+1) x1).1;have h3:=(h2.stored (o+2) x2).1;have h4:=(h3.stored (o+3) x3).1;have h5:=(h4.stored (o+4) x4).1;have h6:=(h5.stored (o+5) x5).1;have h7:=(h6.stored (o+6) x6).1;exact⟨k _ _ _ H ag,k _ _ _ h1 ag,k _ _ _ h2 ag,k _ _ _ h3 ag,k _ _ _ h4 ag,k _ _ _ h5 ag,k _ _ _ h6 ag,k _ _ _ h7 ag⟩
theorem eight{l:aK}(h:l.length=7):∃a b c d e x y,l=[a,b,c,d,e,x,y]:=by
 match l,h with
 |[a,b,c,d,e,x,y],_=>exact⟨a,b,c,d,e,x,y,rfl⟩
theorem wH(u:ai)(h:u.oneCell'=true)(w:ah)(a:Addr):(store a u).run prog w=stored prog w a u .plain:=run_store prog w a u .plain h
theorem GL{a b c d e x y:ai}(h:∀u∈[a,b,c,d,e,x,y],u.oneCell'=true):
  (∀w p,(store p a).run prog w=stored prog w p a .plain)/\(∀w p,(store p b).run prog w=stored prog w p b .plain)/\(∀w p,(store p c).run prog w=stored prog w p c .plain)/\(∀w p,(store p d).run prog w=stored prog w p d .plain)/\(∀w p,(store p e).run prog w=stored prog w p e .plain)/\(∀w p,(store p x).run prog w=stored prog w p x .plain)/\(∀w p,(store p y).run prog w=stored prog w p y .plain):=
 ⟨wH a (h a aA),wH b (h b aA),wH c (h c aA),wH d (h d aA),wH e (h e aA),wH x (h x aA),wH y (h y aA)⟩
theorem Vk{w:ah}{g o:Nat}{a b c d e x y z:ai}(h:w.rangeAt g o [a,b,c,d,e,x,y,z]):w.cell? ⟨g,o,none⟩=some a/\w.cell? ⟨g,o+1,none⟩=some b/\w.cell? ⟨g,o+2,none⟩=some c/\w.cell? ⟨g,o+3,none⟩=some d/\w.cell? ⟨g,o+4,none⟩=some e/\w.cell? ⟨g,o+5,none⟩=some x/\w.cell? ⟨g,o+6,none⟩=some y/\w.cell? ⟨g,o+7,none⟩=some z:=
 ⟨h 0 _ rfl,h 1 _ rfl,h 2 _ rfl,h 3 _ rfl,h 4 _ rfl,h 5 _ rfl,h 6 _ rfl,h 7 _ rfl⟩
theorem XX(hS:SB S)(B h n i j:Nat)(f:Nat->rU)(v:ai)(w:ah)(H:HI S B h n f v w)(hi:i<n)(hj:j<n):
  Calls prog 91 #[.pointer (some ⟨h,0,none⟩),.int .i64 ((i:Nat):Int),.int .i64 ((j:Nat):Int)] w λe w'=>e=.returned (.tuple #[])/\HI S B h n (swp f i j) v w'/\Bt v.ownBlock w w':=by
 obtain⟨g,cap,rfl,hg,hnc,sJ⟩:=H.form ag;have IC:(i:Int)<(n:Int):=ag;have NZ:(j:Int)<(n:Int):=ag;have a0:=H.var.cell (i:=0) ag;have ri:=xK (wJ hS) H.own hi;have rj:=xK (wJ hS) H.own hj;have H1:=H.put hS hi hg (H.sg j hj);have H2:=H1.put hS hj hg (H.sg i hi);have hb:=JR (o:=some g) rfl (JQ S (f i)) (j*8) _ (JR (o:=some g) rfl (JQ S (f j)) (i*8) w (Bt.refl _ _));rw[apL]at H2;have o0:=H.own;have o1:=H1.own;simp only[JQ]at ri rj H2 hb o1;have sa:=hS.one (f i).l;have sb:=hS.one (f j).l;obtain⟨a1,a2,a3,a4,a5,a6,a7,ea⟩:=eight (hS.len (f i).l);obtain⟨b1,b2,b3,b4,b5,b6,b7,eb⟩:=eight (hS.len (f j).l);rw[ea]at ri H2 hb sa;rw[eb]at rj H2 hb o1 sb;have tk:=λ(n:Int)=>wH (.int .i64 n) rfl;obtain⟨t1,t2,t3,t4,t5,t6,t7⟩:=GL sa;obtain⟨v1,v2,v3,v4,v5,v6,v7⟩:=GL sb;obtain⟨p0,p1,p2,p3,p4,p5,p6,p7⟩:=Vk ri;obtain⟨q0,q1,q2,q3,q4,q5,q6,q7⟩:=Vk rj;obtain⟨⟨-,z0⟩,⟨⟨_,c1⟩,z1⟩,⟨⟨_,c2⟩,z2⟩,⟨⟨_,c3⟩,z3⟩,⟨⟨_,c4⟩,z4⟩,⟨⟨_,c5⟩,z5⟩,⟨⟨_,c6⟩,z6⟩,⟨_,c7⟩,z7⟩:=adF o0 (o:=i*8) ag (.int .i64 ((zY (f j):Nat):Int)) b1 b2 b3 b4 b5 b6 b7;obtain⟨⟨⟨_,d0⟩,y0⟩,⟨⟨_,d1⟩,y1⟩,⟨⟨_,d2⟩,y2⟩,⟨⟨_,d3⟩,y3⟩,⟨⟨_,d4⟩,y4⟩,⟨⟨_,d5⟩,y5⟩,⟨⟨_,d6⟩,y6⟩,⟨_,d7⟩,y7⟩:=adF o1 (o:=j*8) ag (.int .i64 ((zY (f i):Nat):Int)) a1 a2 a3 a4 a5 a6 a7;simp only[World.setCells,dO,Nat.reduceAdd]at d0 d1 d2 d3 d4 d5 d6 d7 y0 y1 y2 y3 y4 y5 y6 y7 H2 hb;clear H H1 o0 o1 ri rj ea eb sa sb;generalize zY (f i)=ka at*;generalize zY (f j)=kb at*;go_enter func91,ntmps91;go_wp2;go_region;go_end0;refine⟨rfl,?_,?_⟩
 .with_reducible exact H2.abA
 .show Bt (some g) w _
  with_reducible exact hb.abA
end
section
variable {S:Nat->aK}
def anv(S:Nat->aK)(B h n:Nat)(f:Nat->rU)(v:ai)(w:ah)(e:Ending)(w':ah):Prop:=e=.returned (.tuple #[])/\∃f',HI S B h n f' v w'/\qX n f f'/\Hp f' n/\Bt v.ownBlock w w'
theorem abB(hS:SB S)(B h n i:Nat)(f:Nat->rU)(v:ai)(w:ah)(H:HI S B h n f v w)(hi:i<n)(hu:agN f n i):
  Calls prog 69 #[.pointer (some ⟨h,0,none⟩),.int .i64 ((i:Nat):Int)] w λe w'=>anv S B h n f v w e w':=by
 obtain⟨g,cap,rfl,hg,hnc,sJ⟩:=H.form ag;have acC:cap<=9223372036854775807:=sJ;clear sJ;go_enter func69,ntmps69;go_wp2
 go_loopw [1,4] (λvi _ wr=>∃(i:Nat)(f':Nat->rU),i<n/\vi=.int .i64 ((i:Nat):Int)/\HI S B h n f' (.slice (some ⟨g,0,none⟩) n cap) wr/\qX n f f'/\agN f' n i/\Bt (some g) w wr) (λvi _ _=>(intOf vi).toNat)
 case atStart=>exact⟨i,f,hi,rfl,H,qX.refl n f,hu,Bt.refl _ _⟩
 case round=>
  clear H hi hu;obtain⟨i,f',hi,rfl,H,hR,hu,hb⟩:=hrel;by_cases h0:0<i
  .have h0':(0:Int)<(i:Int):=ag;have a0:=H.var.cell (i:=0) ag;have hp:(i-1)/2<i:=ag
   have hq:Int.tdiv ((i:Int)-1) 2=(((i-1)/2:Nat):Int):=by rw[av4 ag];omega
   have c1:=H.key hS (i:=(i-1)/2) ag;have c2:=H.key hS hi;have hlk:=adE (H.sg i hi) (H.sg ((i-1)/2) ag);have cs:=λm=>XX hS B h n ((i-1)/2) i f' _ (wr.drewN m) (H.drew m) ag hi
   have hus:=λhl=>amD hu h0 hi hl
   have uw:=λhl=>afg hu (λ_=>hl)
   have hRs:=hR.trans (qX.swp f' (show(i-1)/2<n by omega) hi);generalize hpp:(i-1)/2=p at*;have hp':(p:Int)<(n:Int):=ag;have IC:(i:Int)<(n:Int):=ag;by_cases hkk:((zY (f' p):Nat):Int)<=((zY (f' i):Nat):Int)
   rotate_left
   .have hle:decide (((zY (f' p):Nat):Int)<=((zY (f' i):Nat):Int))=false:=dY hkk;have hl:Hp.lt (f' i).k (f' p).k=true:=by rw[hlk];exact gV ag
    have asb:=hus hl;clear hus uw hl
    go_wp2_with fail
    go_big_quiet (fail)
    have cs':=cs nq;have hbq:=hb.drew nq;have BR:=hbq.size;clear cs H hb;generalize wr.drewN nq=wq at*
    go_wp2_with(first|(go_at_call 91;(with_reducible refine cs'.mono ?_);rintro e w2 ⟨rfl,hH2,rq⟩))
    go_roundw
    case rel=>exact⟨p,_,ag,rfl,hH2,hRs,asb,hbq.trans rq⟩
    case measure=>simp[intOf];omega
   .have hle:decide (((zY (f' p):Nat):Int)<=((zY (f' i):Nat):Int))=true:=gV hkk;have hl:=uw (show Hp.lt (f' i).k (f' p).k=false by rw[hlk];exact dY ag);clear hus uw
    go_wp2_with fail
    go_big_quiet (fail)
    have H2:=H.drew nq;have hbq:=hb.drew nq;clear cs H hb;generalize wr.drewN nq=wq at*;go_wp2;go_end0;exact⟨rfl,f',H2,hR,hl,hbq⟩
  .have h0':¬((0:Int)<(i:Int)):=ag;go_wp2;go_end0;exact⟨rfl,f',H,hR,afg hu (λh=>absurd h h0),hb⟩
theorem Wx(hS:SB S)(B h n i:Nat)(f:Nat->rU)(v:ai)(w:ah)(H:HI S B h n f v w)(hn:n<=4398046511104)(hi:i<n\/i=0)(hu:agO f n i):
  Calls prog 70 #[.pointer (some ⟨h,0,none⟩),.int .i64 ((i:Nat):Int)] w λe w'=>anv S B h n f v w e w':=by
 go_enter func70,ntmps70;go_wp2
 go_loopw [1,4] (λvi _ wr=>∃(i:Nat)(f':Nat->rU),(i<n\/i=0)/\vi=.int .i64 ((i:Nat):Int)/\HI S B h n f' v wr/\qX n f f'/\agO f' n i/\Bt v.ownBlock w wr) (λvi _ _=>n-(intOf vi).toNat)
 case atStart=>exact⟨i,f,hi,rfl,H,qX.refl n f,hu,Bt.refl _ _⟩
 case round=>
  clear H hi hu;obtain⟨i,f',hi,rfl,H,hR,hu,hb⟩:=hrel;obtain⟨l1,l2,l3⟩:=amE n f' i;have k1:=Rq hS B h n (2*i+1) (2*i+2) f' v wr H ag ag;generalize ha:Zx n f' (2*i+1) (2*i+2)=a at*;have k2:=λw' (H':HI S B h n f' v w')=>Rq hS B h n i a f' v w' H' (λ_=>ag) ag
  have dr:∀{w1 w2:ah},HI S B h n f' v w1->Bt v.ownBlock w w1->(∃m,w2=w1.drewN m)->HI S B h n f' v w2/\Bt v.ownBlock w w2:=λ{w1 w2} h1 h2 ⟨m,e⟩=>by subst e;exact⟨h1.drew m,h2.drew m⟩
  have e1:2*((i:Nat):Int)+1=((2*i+1:Nat):Int):=ag;have e2:2*((i:Nat):Int)+2=((2*i+2:Nat):Int):=ag;by_cases hx:a<n/\Hp.lt (f' a).k (f' i).k=true
  .have el:Zx n f' i a=a:=by unfold Zx;rw[ax hx]
   have VN:i<n:=ag;rw[el]at k2;have hs:=amF hu (show 0<a by omega) hx.1 ag hx.2 (l2 hx.1);have cs:=λw' (H':HI S B h n f' v w')=>XX hS B h n a i f' v w' H' hx.1 VN
   have hRs:=hR.trans (qX.swp f' hx.1 VN);have hne:((a:Int)==(i:Int))=false:=aJ;have qB:=hx.1;clear hx el l2 l3 hu ha;generalize IG:2*i+1=i1 at*;generalize hi3:2*i+2=i2 at*
   go_wp2_with(first
    |(go_at_call 92;(with_reducible refine k1.mono ?_);rintro e w1 ⟨rfl,E8⟩;(obtain⟨H1,tV⟩:=dr H hb E8);clear E8 H hb k1)
    |(go_at_call 92;(with_reducible refine(k2 _ H1).mono ?_);rintro e w2 ⟨rfl,xI⟩;(obtain⟨H2,rq⟩:=dr H1 tV xI);clear xI H1 tV k2)
    |(go_at_call 91;(with_reducible refine(cs _ H2).mono ?_);rintro e w3 ⟨rfl,H3,uQ⟩))
   go_roundw
   case rel=>exact⟨a,_,.inl qB,rfl,H3,hRs,hs,rq.trans uQ⟩
   case measure=>simp[intOf];omega
  .have el:Zx n f' i a=i:=by unfold Zx;rw[au hx]
   rw[el]at k2
   have hs:Hp f' n:=amG hu λc h0 hc hci=>by
    rcases l3 with l3|l3
    .rcases hy:Hp.lt (f' a).k (f' i).k with _|_
     .exact le_trans hy (l2 l3 c h0 hc hci)
     .exact absurd ⟨l3,hy⟩ hx
    .exact absurd hci (l3 c h0 hc)
   have hne:((i:Int)==(i:Int))=true:=aA;clear hx el l2 l3 hu ha;generalize IG:2*i+1=i1 at*;generalize hi3:2*i+2=i2 at*
   go_wp2_with(first
    |(go_at_call 92;(with_reducible refine k1.mono ?_);rintro e w1 ⟨rfl,E8⟩;(obtain⟨H1,tV⟩:=dr H hb E8);clear E8 H hb k1)
    |(go_at_call 92;(with_reducible refine(k2 _ H1).mono ?_);rintro e w2 ⟨rfl,xI⟩;(obtain⟨H2,rq⟩:=dr H1 tV xI);clear xI H1 tV k2))
   go_end0;exact⟨rfl,f',H2,hR,hs,rq⟩
end
theorem DR(w:ah)(l:aK)(t:aG)(j:Nat):(w.alloc (.cells l.toArray t)).cell? ⟨w.heap.size,j,none⟩=l[j]?:=by simp only[World.cell?,gU];simp
theorem Hu(w:ah)(l:aK)(t:aG):∀j u,l[j]?=some u->(w.alloc (.cells l.toArray t)).cell? ((⟨w.heap.size,0,none⟩:Addr).add j)=some u:=λj u h=>by rw[Addr.add_mid,bJ,DR];exact h
theorem Tryz.ajI:(prog.info? 144).map (λi=>(i.zero,i.size,i.bytes))=some (some (.agg #[.int .i64 0,.int .i64 0,.int .i64 0,.int .i64 0,.int .i64 0,.slice none 0 0,.slice none 0 0,.slice none 0 0]),8,112):=ak
section
variable {S:Nat->aK}{B h n:Nat}{f:Nat->rU}{v:ai}{w:ah}
theorem ajJ(H:HI S B h n f v w):Calls prog 46 #[.pointer (some ⟨h,0,none⟩)] w λr w'=>r=.returned (.int .i64 ((n:Nat):Int))/\w'=w:=by have a0:=H.var.cell (i:=0) ag;obtain⟨bo,cap,rfl⟩:=H.slice;clear H;go_enter func46,ntmps46;exact axd
theorem HI.push{v':ai}{e:rU}{wa w1:ah}(he:∃b,e.k=[b])(H:HI S B h n f v w)(hB:B<=w.heap.size)(ha:Below w.heap.size w wa)(hg:wa.grownBy w1 v.ownBlock)(ho:w1.ownsRow B 144 8 v' (n+1) (zF (JQ S) n f++JQ S e)):
  HI S B h (n+1) (λx=>if x=n then e else f x) v' (w1.setCell ⟨h,0,none⟩ v')/\w1.cell? ⟨h,0,none⟩=some v/\w1.frozen? ⟨h,0,none⟩=false/\Below h w (w1.setCell ⟨h,0,none⟩ v')/\B<=(w1.setCell ⟨h,0,none⟩ v').heap.size:=by
 have vU:=H.low;have hsa:=ha.size;have k:w1.heap[h]?=w.heap[h]?:=(hg.block h ag (λe'=>by have:=(H.own.lt h e'.symm).1;omega)).trans (ha.block h ag);have r:=H.var.of_block k;have CU:Below B w w1:=((ha.mono hB).grown hg ag (λx hx=>(H.own.lt x hx).1));have Ai:=CU.size;refine⟨⟨(r.set 0 v').congr λi hi=>by rw[ax ag],?_,vU,λx hx=>?_⟩,r.cell (i:=0) ag,r.frozen 0,?_,aJ⟩
 .rw[zX,ax rfl,Rn (g:=f) λi hi=>iT];exact dR ho (a:=⟨h,0,none⟩) vU v'
 .split
  .exact he
  .exact H.sg x ag
 .exact(CU.mono (jJ vU)).setCell (p:=⟨h,0,none⟩) (ay _) _
theorem agP(hS:SB S)(B h n:Nat)(f:Nat->rU)(v:ai)(e:rU)(w:ah)(he:∃b,e.k=[b])(H:HI S B h n f v w)(hB:B<=w.heap.size)(hn:n<=1048576)(hp:Hp f n):
  Calls prog 45 #[.pointer (some ⟨h,0,none⟩),.int .i64 ((zY e:Nat):Int),.agg (S e.l).toArray] w λr w'=>r=.returned (.tuple #[])/\∃f' v',HI S B h (n+1) f' v' w'/\qX (n+1) (λx=>if x=n then e else f x) f'/\Hp f' (n+1)/\Below h w w'/\B<=w'.heap.size:=by
 obtain⟨i0,zo,xY,wW,vV⟩:=cO Tryz.ajI;have vU:=H.low;have hex:∀{w0 wa w1:ah}{v':ai},HI S B h n f v w0->_:=λ{w0 wa w1 v'} H0 PW=>HI.push (wa:=wa) (w1:=w1) (v':=v') he H0 PW;have h1c:=ajH hS e;have hcn:=λw t=>Hu w (JQ S e) t
 unfold JQ at hcn h1c;have cn:=λw t=>DR w (S e.l) t
 have E5:=wJ hS e;obtain⟨x1,x2,x3,x4,x5,x6,x7,ex⟩:=eight (hS.len e.l);unfold JQ at E5;have e7:JQ S e=[.int .i64 ((zY e:Nat):Int),x1,x2,x3,x4,x5,x6,x7]:=by rw[JQ,ex]
 rw[e7]at hex;rw[ex]at hcn h1c cn E5⊢;have b0:Below h w (w.alloc (.cells #[x1,x2,x3,x4,x5,x6,x7] 41)):=(aO _ _).alloc ag _;have H0:HI S B h n f v (w.alloc (.cells #[x1,x2,x3,x4,x5,x6,x7] 41)):=⟨H.var.alloc _,H.own.alloc _,H.low,H.sg⟩;have PW:B<=(w.alloc (.cells #[x1,x2,x3,x4,x5,x6,x7] 41)).heap.size:=aJ;have c0:=cn w 41 0;have c1:=cn w 41 1;have c2:=cn w 41 2;have c3:=cn w 41 3;have c4:=cn w 41 4;have c5:=cn w 41 5;have c6:=cn w 41 6;simp only[jg,jh]at c0 c1 c2 c3 c4 c5 c6;obtain⟨bo,cap,rfl⟩:=H.slice;clear H hB cn;go_enter func45,ntmps45
 go_wp2_with fail
 have a0:=H0.var.cell (i:=0) ag;have a0':=(H0.var.alloc (.cells #[.int .i64 ((zY e:Nat):Int),x1,x2,x3,x4,x5,x6,x7] 144)).cell (i:=0) ag;generalize Og:w.alloc (.cells #[x1,x2,x3,x4,x5,x6,x7] 41)=w0 at*;clear Og
 go_region_law ((refine abC rfl _ _ 110 rfl B 144 i0 (.agg #[.int .i64 0,.int .i64 0,.int .i64 0,.int .i64 0,.int .i64 0,.slice none 0 0,.slice none 0 0,.slice none 0 0]) 8 112 underlying110 zo xY wW vV rfl aB _ _ _ rfl ((H0.own.alloc _).drew) ⟨w0.heap.size,0,none⟩ 1 1 [.int .i64 ((zY e:Nat):Int),x1,x2,x3,x4,x5,x6,x7] rfl rfl (hcn _ _) h1c bT ag aJ ?_;intro v' w1 tZ qA hwh;obtain⟨gq,cq,rfl,_,_⟩:=tZ.form ag;obtain⟨H2,d1,d2,rq,zJ⟩:=hex H0 PW (((aO w0.heap.size w0).alloc (ay _) _).drew) qA tZ))
 all_goals
  have k3:=abB hS B h (n+1) n _ _ _ H2 ag (ajK hp);have g0:=H2.var.cell (i:=0) ag;have CU:=b0.trans rq;clear H0 H2 a0 a0' c0 c1 c2 c3 c4 c5 c6 d1 d2 b0 rq qA hwh hex;generalize w1.setCell ⟨h,0,none⟩ (.slice (some ⟨gq,0,none⟩) (n+1) cq)=w2 at*
  go_wp2_with(first|(go_at_call 69;(with_reducible refine k3.mono ?_);rintro r w3 ⟨rfl,f',H3,hR3,hp3,uQ⟩))
  go_end0;exact⟨rfl,f',_,H3,hR3,hp3,CU.trans ((uQ.below zJ (λg um=>by have:=(tZ.lt g um).1;omega)).mono (jJ vU)),bF zJ uQ.size⟩
end
section
variable {S:Nat->aK}{B h n:Nat}{f:Nat->rU}{v:ai}{w:ah}
theorem ao6{w:ah}{R t:Nat}{z1 z2 z3 z4 z5 z6 z7:ai}(h:w.heap[R]?=some (.cells #[z1,z2,z3,z4,z5,z6,z7] t))(x1 x2 x3 x4 x5 x6 x7:ai):
  (w.cell? ⟨R,0,none⟩=some z1/\w.frozen? ⟨R,0,none⟩=false)/\((w.setCell ⟨R,0,none⟩ x1).cell? ⟨R,1,none⟩=some z2/\(w.setCell ⟨R,0,none⟩ x1).frozen? ⟨R,1,none⟩=false)/\(((w.setCell ⟨R,0,none⟩ x1).setCell ⟨R,1,none⟩ x2).cell? ⟨R,2,none⟩=some z3/\((w.setCell ⟨R,0,none⟩ x1).setCell ⟨R,1,none⟩ x2).frozen? ⟨R,2,none⟩=false)/\((((w.setCell ⟨R,0,none⟩ x1).setCell ⟨R,1,none⟩ x2).setCell ⟨R,2,none⟩ x3).cell? ⟨R,3,none⟩=some z4/\(((w.setCell ⟨R,0,none⟩ x1).setCell ⟨R,1,none⟩ x2).setCell ⟨R,2,none⟩ x3).frozen? ⟨R,3,none⟩=false)/\(((((w.setCell ⟨R,0,none⟩ x1).setCell ⟨R,1,none⟩ x2).setCell ⟨R,2,none⟩ x3).setCell ⟨R,3,none⟩ x4).cell? ⟨R,4,none⟩=some z5/\((((w.setCell ⟨R,0,none⟩ x1).setCell ⟨R,1,none⟩ x2).setCell ⟨R,2,none⟩ x3).setCell ⟨R,3,none⟩ x4).frozen? ⟨R,4,none⟩=false)/\((((((w.setCell ⟨R,0,none⟩ x1).setCell ⟨R,1,none⟩ x2).setCell ⟨R,2,none⟩ x3).setCell ⟨R,3,none⟩ x4).setCell ⟨R,4,none⟩ x5).cell? ⟨R,5,none⟩=some z6/\(((((w.setCell ⟨R,0,none⟩ x1).setCell ⟨R,1,none⟩ x2).setCell ⟨R,2,none⟩ x3).setCell ⟨R,3,none⟩ x4).setCell ⟨R,4,none⟩ x5).frozen? ⟨R,5,none⟩=false)/\(((((((w.setCell ⟨R,0,none⟩ x1).setCell ⟨R,1,none⟩ x2).setCell ⟨R,2,none⟩ x3).setCell ⟨R,3,none⟩ x4).setCell ⟨R,4,none⟩ x5).setCell ⟨R,5,none⟩ x6).cell? ⟨R,6,none⟩=some z7/\((((((w.setCell ⟨R,0,none⟩ x1).setCell ⟨R,1,none⟩ x2).setCell ⟨R,2,none⟩ x3).setCell ⟨R,3,none⟩ x4).setCell ⟨R,4,none⟩ x5).setCell ⟨R,5,none⟩ x6).frozen? ⟨R,6,none⟩=false)/\(((((((w.setCell ⟨R,0,none⟩ x1).setCell ⟨R,1,none⟩ x2).setCell ⟨R,2,none⟩ x3).setCell ⟨R,3,none⟩ x4).setCell ⟨R,4,none⟩ x5).setCell ⟨R,5,none⟩ x6).setCell ⟨R,6,none⟩ x7).heap[R]?=some (.cells #[x1,x2,x3,x4,x5,x6,x7] t):=by
 have h1:(World.setCell _ ⟨R,0,none⟩ x1).heap[R]?=some (.cells #[x1,z2,z3,z4,z5,z6,z7] t):=kF _ R 0 _ t x1 h;have h2:(World.setCell _ ⟨R,1,none⟩ x2).heap[R]?=some (.cells #[x1,x2,z3,z4,z5,z6,z7] t):=kF _ R 1 _ t x2 h1;have h3:(World.setCell _ ⟨R,2,none⟩ x3).heap[R]?=some (.cells #[x1,x2,x3,z4,z5,z6,z7] t):=kF _ R 2 _ t x3 h2;have h4:(World.setCell _ ⟨R,3,none⟩ x4).heap[R]?=some (.cells #[x1,x2,x3,x4,z5,z6,z7] t):=kF _ R 3 _ t x4 h3;have h5:(World.setCell _ ⟨R,4,none⟩ x5).heap[R]?=some (.cells #[x1,x2,x3,x4,x5,z6,z7] t):=kF _ R 4 _ t x5 h4;have h6:(World.setCell _ ⟨R,5,none⟩ x6).heap[R]?=some (.cells #[x1,x2,x3,x4,x5,x6,z7] t):=kF _ R 5 _ t x6 h5;have h7:(World.setCell _ ⟨R,6,none⟩ x7).heap[R]?=some (.cells #[x1,x2,x3,x4,x5,x6,x7] t):=kF _ R 6 _ t x7 h6;exact⟨⟨cell_of _ h 0,wo _ h 0⟩,⟨cell_of _ h1 1,wo _ h1 1⟩,⟨cell_of _ h2 2,wo _ h2 2⟩,⟨cell_of _ h3 3,wo _ h3 3⟩,⟨cell_of _ h4 4,wo _ h4 4⟩,⟨cell_of _ h5 5,wo _ h5 5⟩,⟨cell_of _ h6 6,wo _ h6 6⟩,h7⟩
theorem ajL{c:rU->aK}{s:Nat}(hc:∀e,(c e).length=s){w:ah}{B t n g cap:Nat}{f:Nat->rU}(h:w.ownsRow B t s (.slice (some ⟨g,0,none⟩) (n+1) cap) (n+1) (zF c (n+1) f)):w.ownsRow B t s (.slice (some ⟨g,0,none⟩) n cap) n (zF c n f):=by
 refine⟨vw hc n f,.inr ?_⟩;rcases h.2 with⟨h1,_⟩|⟨g',anc,cur,h1,h2,h3,h4,h5,h6,h7⟩
 .cases h1
 .cases h1;refine⟨g,cap,cur,rfl,h2,h3,ag,h5,h6,?_⟩;have:=bI (List.take (n*s)) h7;rw[List.take_take,ni (jI s ag),zX,List.take_append_of_le_length mi]at this;rw[this,gZ mi]
theorem IW{B t s m g:Nat}{v:ai}{xs:aK}(hv:v.ownBlock≠some g):∀(vs:aK)(p:Nat)(w:ah),w.ownsRow B t s v m xs->(w.setCells g p vs).ownsRow B t s v m xs
 |[],_,_,h=>h
 |u::r,p,_,h=>IW hv r (p+1) _ (ownsRow_setCell_other h (a:=⟨g,p,none⟩) hv u)
theorem pack{W:ah}{g m:Nat}{w1:ah}(H:HI S B h n f v W)(k2:∀b,b≠g->W.heap[b]?=w1.heap[b]?)(k3:W.heap.size=m)(b:Bt (some g) w1 W):HI S B h n f v W.drew/\(∀b,b≠g->W.drew.heap[b]?=w1.heap[b]?)/\W.drew.heap.size=m/\Bt (some g) w1 W.drew:=⟨H.abA,k2,k3,b.abA⟩
def aqV(S:Nat->aK)(B h n:Nat)(f:Nat->rU)(v:ai)(w:ah)(r:Ending)(w':ah):Prop:=r=.returned (.agg (S (f 0).l).toArray)/\∃f' v',HI S B h n f' v' w'/\qX n (adG n f) f'/\Hp f' n/\Below h w w'/\B<=w'.heap.size/\∀b,b<w.heap.size->b≠h->some b≠v.ownBlock->w'.heap[b]?=w.heap[b]?
theorem ajM(hS:SB S)(B h n:Nat)(f:Nat->rU)(v:ai)(w:ah)(H:HI S B h (n+1) f v w)(hB:B<=w.heap.size)(hn:n<=1048576)(hp:Hp f (n+1)):
  Calls prog 47 #[.pointer (some ⟨h,0,none⟩)] w λr w'=>aqV S B h n f v w r w':=by
 obtain⟨g,cap,rfl,hg,hnc,sJ⟩:=H.form ag;have acC:cap<=9223372036854775807:=sJ;clear sJ;have vU:=H.low;have H0:HI S B h (n+1) f (.slice (some ⟨g,0,none⟩) (n+1) cap) (w.alloc (.cells #[.int .i64 0,.int .i64 0,.int .i64 0,.int .i64 0,.slice none 0 0,.slice none 0 0,.slice none 0 0] 41)):=⟨H.var.alloc _,H.own.alloc _,H.low,H.sg⟩;have s0:(w.alloc (.cells #[.int .i64 0,.int .i64 0,.int .i64 0,.int .i64 0,.slice none 0 0,.slice none 0 0,.slice none 0 0] 41)).heap.size=w.heap.size+1:=aA;have r0:=xK (wJ hS) H0.own (i:=0) ag;have sx:=hS.one (f 0).l;obtain⟨x1,x2,x3,x4,x5,x6,x7,ex⟩:=eight (hS.len (f 0).l);unfold JQ at r0;rw[ex]at r0 sx;obtain⟨p0,p1,p2,p3,p4,p5,p6,p7⟩:=Vk r0;simp only[fO,bJ]at p0 p1 p2 p3 p4 p5 p6 p7;obtain⟨t1,t2,t3,t4,t5,t6,t7⟩:=GL sx;have a0:=H0.var.cell (i:=0) ag;have H1:HI S B h (n+1) f (.slice (some ⟨g,0,none⟩) (n+1) cap) ((w.alloc (.cells #[.int .i64 0,.int .i64 0,.int .i64 0,.int .i64 0,.slice none 0 0,.slice none 0 0,.slice none 0 0] 41)).alloc (.cells #[x1,x2,x3,x4,x5,x6,x7] 41)):=⟨H0.var.alloc _,H0.own.alloc _,H0.low,H0.sg⟩
 have nF:((w.alloc (.cells #[.int .i64 0,.int .i64 0,.int .i64 0,.int .i64 0,.slice none 0 0,.slice none 0 0,.slice none 0 0] 41)).alloc (.cells #[x1,x2,x3,x4,x5,x6,x7] 41)).heap[w.heap.size+1]?=some (.cells #[x1,x2,x3,x4,x5,x6,x7] 41):=by rw[<-s0];exact gU _ _
 have nR:((w.alloc (.cells #[.int .i64 0,.int .i64 0,.int .i64 0,.int .i64 0,.slice none 0 0,.slice none 0 0,.slice none 0 0] 41)).alloc (.cells #[x1,x2,x3,x4,x5,x6,x7] 41)).heap[w.heap.size]?=some (.cells #[.int .i64 0,.int .i64 0,.int .i64 0,.int .i64 0,.slice none 0 0,.slice none 0 0,.slice none 0 0] 41):=(dI _ _ _ ag).trans (gU _ _);have b1:Below w.heap.size w ((w.alloc (.cells #[.int .i64 0,.int .i64 0,.int .i64 0,.int .i64 0,.slice none 0 0,.slice none 0 0,.slice none 0 0] 41)).alloc (.cells #[x1,x2,x3,x4,x5,x6,x7] 41)):=((aO _ _).alloc (ay _) _).alloc ag _;have s1:((w.alloc (.cells #[.int .i64 0,.int .i64 0,.int .i64 0,.int .i64 0,.slice none 0 0,.slice none 0 0,.slice none 0 0] 41)).alloc (.cells #[x1,x2,x3,x4,x5,x6,x7] 41)).heap.size=w.heap.size+2:=aA;have a1:=H1.var.cell (i:=0) ag;have ed:((n:Int)+1)-1=(n:Int):=ag;have E5:(n:Int)<((n+1:Nat):Int):=ag;have uF:(n:Int)<=(cap:Int):=ag
 have hgR:g<w.heap.size:=by
  rcases H.own.2 with⟨q,_⟩|⟨g',anc,cur,q,_,q3,_⟩
  .cases q
  .cases q;exact(eG.1 q3).1
 go_enter func47,ntmps47;clear H
 go_wp2_with fail
 generalize(w.alloc (.cells #[.int .i64 0,.int .i64 0,.int .i64 0,.int .i64 0,.slice none 0 0,.slice none 0 0,.slice none 0 0] 41)).alloc (.cells #[x1,x2,x3,x4,x5,x6,x7] 41)=w1 at*;clear H0 a0 p0 p1 p2 p3 p4 p5 p6 p7 s0 r0;have sy:=hS.one (f n).l;have rn:=xK (wJ hS) H1.own (i:=n) ag;have rz:=xK (wJ hS) H1.own (i:=0) ag;have H2:=H1.put hS (i:=0) ag hg (H1.sg n ag);have o1:=H1.own;obtain⟨y1,y2,y3,y4,y5,y6,y7,ey⟩:=eight (hS.len (f n).l);unfold JQ at rn rz H2;rw[ey]at rn sy H2;rw[ex]at rz;obtain⟨q0,q1,q2,q3,q4,q5,q6,q7⟩:=Vk rn;obtain⟨p0,-⟩:=Vk rz;simp only[fO]at p0;obtain⟨u1,u2,u3,u4,u5,u6,u7⟩:=GL sy;obtain⟨⟨-,z0⟩,⟨⟨_,c1⟩,z1⟩,⟨⟨_,c2⟩,z2⟩,⟨⟨_,c3⟩,z3⟩,⟨⟨_,c4⟩,z4⟩,⟨⟨_,c5⟩,z5⟩,⟨⟨_,c6⟩,z6⟩,⟨_,c7⟩,z7⟩:=adF o1 (o:=0) ag (.int .i64 ((zY (f n):Nat):Int)) y1 y2 y3 y4 y5 y6 y7
 have k2:∀b,b≠g->(w1.setCells g (0*8) (.int .i64 ((zY (f n):Nat):Int)::[y1,y2,y3,y4,y5,y6,y7])).heap[b]?=w1.heap[b]?:=λb hb=>by
  simp only[World.setCells]
  iterate 8 rw[dA _ _ _ _ hb]
 have k3:(w1.setCells g (0*8) (.int .i64 ((zY (f n):Nat):Int)::[y1,y2,y3,y4,y5,y6,y7])).heap.size=w.heap.size+2:=by simp only[World.setCells];simpa using s1
 have b2:=JR (o:=some g) rfl (.int .i64 ((zY (f n):Nat):Int)::[y1,y2,y3,y4,y5,y6,y7]) (0*8) w1 (Bt.refl _ _);simp only[World.setCells,fO,bJ,Nat.reduceAdd]at c1 c2 c3 c4 c5 c6 c7 z0 z1 z2 z3 z4 z5 z6 z7 H2 k2 k3 b2;clear o1 rn rz sy;go_region;obtain⟨H2d,k2d,k3d,b2d⟩:=pack H2 k2 k3 b2;clear a1 p0 q0 q1 q2 q3 q4 q5 q6 q7 c1 c2 c3 c4 c5 c6 c7 z0 z1 z2 z3 z4 z5 z6 z7 H1 H2 k2 k3 b2 u1 u2 u3 u4 u5 u6 u7;generalize World.drew _=W3 at H2d b2d k2d k3d⊢;have g0:=H2d.var.cell (i:=0) ag;have g1:=H2d.var.frozen 0
 have H3:HI S B h n (adG n f) (.slice (some ⟨g,0,none⟩) n cap) (W3.setCell ⟨h,0,none⟩ (.slice (some ⟨g,0,none⟩) n cap)):=
  ⟨(H2d.var.set 0 (.slice (some ⟨g,0,none⟩) n cap)).congr λi hi=>by rw[ax ag],dR (ajL (wJ hS) H2d.own) (a:=⟨h,0,none⟩) vU _,vU,λi hi=>H2d.sg i ag⟩
 have nF3:(W3.setCell ⟨h,0,none⟩ (.slice (some ⟨g,0,none⟩) n cap)).heap[w.heap.size+1]?=some (.cells #[x1,x2,x3,x4,x5,x6,x7] 41):=(dA _ _ _ _ (by show w.heap.size+1≠h;omega)).trans ((k2d _ ag).trans nF);have nR3:=(dA W3 ⟨h,0,none⟩ (.slice (some ⟨g,0,none⟩) n cap) w.heap.size (by show w.heap.size≠h;omega)).trans ((k2d _ ag).trans nR);have s3:(W3.setCell ⟨h,0,none⟩ (.slice (some ⟨g,0,none⟩) n cap)).heap.size=w.heap.size+2:=by simpa using k3d
 have k5:=Wx hS B h n 0 (adG n f) _ _ H3 ag (.inr rfl) (ao7 hp);rw[show((0:Nat):Int)=0 from rfl]at k5;have c7:=λ(W:ah)(hR:W.heap[w.heap.size]?=some (.cells #[.int .i64 0,.int .i64 0,.int .i64 0,.int .i64 0,.slice none 0 0,.slice none 0 0,.slice none 0 0] 41))=>ao6 hR x1 x2 x3 x4 x5 x6 x7;clear H2d nF nR
 go_wp2_with(first|(go_at_call 70;(with_reducible refine k5.mono ?_);rintro r W5 ⟨rfl,f',H5,hR5,hp5,Xg⟩;have nF5:=(Xg.block (w.heap.size+1) ag aug).trans nF3;have nR5:=(Xg.block w.heap.size ag aug).trans nR3;obtain⟨⟨e0,d0⟩,⟨e1,d1⟩,⟨e2,d2⟩,⟨e3,d3⟩,⟨e4,d4⟩,⟨e5,d5⟩,⟨e6,d6⟩,C_⟩:=c7 W5 nR5;have m0:=cell_of W5 nF5 0;have m1:=cell_of W5 nF5 1;have m2:=cell_of W5 nF5 2;have m3:=cell_of W5 nF5 3;have m4:=cell_of W5 nF5 4;have m5:=cell_of W5 nF5 5;have m6:=cell_of W5 nF5 6;simp at m0 m1 m2 m3 m4 m5 m6;clear c7))
 have L6:=Xg.size;have b6:=JR (o:=some w.heap.size) rfl [x1,x2,x3,x4,x5,x6,x7] 0 W5 (Bt.refl _ _);have H6:HI S B h n f' (.slice (some ⟨g,0,none⟩) n cap) (W5.setCells w.heap.size 0 [x1,x2,x3,x4,x5,x6,x7]):=⟨Qn ag _ _ _ H5.var,IW aug _ _ _ H5.own,H5.low,H5.sg⟩
 have Kt:∀b,b<w.heap.size->b≠h->b≠g->(W5.setCells w.heap.size 0 [x1,x2,x3,x4,x5,x6,x7]).heap[b]?=w.heap[b]?:=λb hb h1 h2=>by rw[b6.block b ag aJ,Xg.block b ag aug,dA _ _ _ _ h1,k2d b h2,b1.block b hb]
 have A_:Below h w (W5.setCells w.heap.size 0 [x1,x2,x3,x4,x5,x6,x7]):=⟨b6.os.trans (Xg.os.trans (b2d.os.trans b1.os)),b6.tape.trans (Xg.tape.trans (b2d.tape.trans b1.tape)),b6.output.trans (Xg.output.trans (b2d.output.trans b1.output)),by have:=b6.size;omega,λb hb=>Kt b ag ag ag⟩;have hs6:B<=(W5.setCells w.heap.size 0 [x1,x2,x3,x4,x5,x6,x7]).heap.size:=by have:=b6.size;omega
 simp only[World.setCells,bJ,Nat.reduceAdd]at Kt H6 A_ hs6;refine dS (auC (p:=2) rfl _ _ w.heap.size 41 _ (0,0) _ aF C_ underlying41 rfl ak) rfl ?_;exact⟨by rw[ex],f',_,H6,hR5,hp5,A_,hs6,λb hb h1 h2=>Kt b hb h1 (λe=>h2 (by rw[e];rfl))⟩
end
theorem Tryz.Lc:(prog.info? 41).map (λi=>(i.zero,i.size,i.bytes))=some (some (.agg #[.int .i64 0,.int .i64 0,.int .i64 0,.int .i64 0,.slice none 0 0,.slice none 0 0,.slice none 0 0]),7,104):=ak
def SC(w:ah)(bo:aW)(n:Nat)(S:Nat->aK):Prop:=0<n->∃b o,bo=some ⟨b,o,none⟩/\b<w.heap.size/\∀i,i<n->w.rangeAt b (o+i*7) (S i)
theorem SC.below{w w':ah}{bo:aW}{n B:Nat}{S:Nat->aK}(h:SC w bo n S)(hb:Below B w w')(hB:w.heap.size<=B):SC w' bo n S:=λhn=>by obtain⟨b,o,h1,h2,h3⟩:=h hn;exact⟨b,o,h1,bH h2 hb.size,λi hi j v hv=>(hb.cell (p:=⟨b,_,none⟩) (bH h2 hB)).trans (h3 i hi j v hv)⟩
def Wy(ix:Nat->Nat)(i:Nat):rU:=⟨[UInt8.ofNat (ix i)],none,i,0⟩
theorem abD{ix:Nat->Nat}{i:Nat}(h:ix i<256):zY (Wy ix i)=ix i:=by show(UInt8.ofNat (ix i)).toNat=ix i;simp[dB h]
theorem Eg{w:ah}{g o:Nat}{b c d e x y z:ai}(h:w.rangeAt g o [b,c,d,e,x,y,z]):w.cell? ⟨g,o,none⟩=some b/\w.cell? ⟨g,o+1,none⟩=some c/\w.cell? ⟨g,o+2,none⟩=some d/\w.cell? ⟨g,o+3,none⟩=some e/\w.cell? ⟨g,o+4,none⟩=some x/\w.cell? ⟨g,o+5,none⟩=some y/\w.cell? ⟨g,o+6,none⟩=some z:=
 ⟨h 0 _ rfl,h 1 _ rfl,h 2 _ rfl,h 3 _ rfl,h 4 _ rfl,h 5 _ rfl,h 6 _ rfl⟩
section
variable {S:Nat->aK}
theorem agQ{h i m k:Nat}{f out fh f2:Nat->rU}{v v2 vs v':ai}{w wq W2 wa w5:ah}(hk:i-m=k+1)(hp:Hp fh (k+1))(hR:qX i f (λx=>if x<m then out x else fh (x-m)))
  (anf:∀x,x+1<m->Hp.le (out x).k (out (x+1)).k) (hle:∀x,x<k+1->0<m->Hp.le (out (m-1)).k (fh x).k) (H:HI S (h+1) h (k+1) fh v wq) (o0:wq.ownsRow (h+1) 41 7 vs m (zF (λe=>S e.l) m out)) (b0:Below h w wq)
  (LX:qX k (adG k fh) f2) (BJ:Hp f2 k) (H2:HI S (h+1) h k f2 v2 W2) (rq:Below h wq W2) (s2:h+1<=W2.heap.size) (hfr:∀b,b<wq.heap.size->b≠h->some b≠v.ownBlock->W2.heap[b]?=wq.heap[b]?)
  (ha:Below W2.heap.size W2 wa) (hg:wa.grownBy w5 vs.ownBlock) (ho:w5.ownsRow (h+1) 41 7 v' (m+1) (zF (λe=>S e.l) m out++S (fh 0).l)):
  m+1<=i/\HI S (h+1) h (i-(m+1)) f2 v2 w5/\Hp f2 (i-(m+1))/\qX i f (λx=>if x<m+1 then(λx=>if x=m then fh 0 else out x) x else f2 (x-(m+1)))/\(∀x,x+1<m+1->Hp.le ((λx=>if x=m then fh 0 else out x) x).k ((λx=>if x=m then fh 0 else out x) (x+1)).k)/\(∀x,x<i-(m+1)->0<m+1->Hp.le ((λx=>if x=m then fh 0 else out x) (m+1-1)).k (f2 x).k)/\w5.ownsRow (h+1) 41 7 v' (m+1) (zF (λe=>S e.l) (m+1) (λx=>if x=m then fh 0 else out x))/\Below h w w5/\h+1<=w5.heap.size:=by
 have ek:i-(m+1)=k:=ag;have hsa:=ha.size;have hsq:=rq.size;have hR':=hR.trans ((qX.apN (k:=k) (o:=out) (g:=fh) (show m+(k+1)=i by omega)));have o4:W2.ownsRow (h+1) 41 7 vs m (zF (λe=>S e.l) m out):=qH o0 λg um=>hfr g (o0.lt g um).2 (λe=>by have:=(o0.lt g um).1;omega) (λe=>x8 o0 H.own aB um e.symm)
 have kb:∀b,b<W2.heap.size->some b≠vs.ownBlock->w5.heap[b]?=W2.heap[b]?:=λb hb hne=>(hg.block b ag hne).trans (ha.block b hb)
 have CU:Below (h+1) W2 w5:=((ha.mono s2).grown hg ag (λx hx=>(o4.lt x hx).1));have L6:=CU.size;rw[ek];refine⟨ag,⟨H2.var.of_block (kb h ag (λe=>by have:=(o4.lt h e.symm).1;omega)),qH H2.own λg um=>kb g (H2.own.lt g um).2 (λe=>x8 H2.own o4 aB um e.symm),H2.low,H2.sg⟩,BJ,?_,?_,?_,?_,(b0.trans rq).trans (CU.mono ag),ag⟩
 .exact hR'.trans (qX.tail (m:=m+1) (o:=λx=>if x=m then fh 0 else out x) LX ag)
 .intro x hx;dsimp only;rw[au (show¬x=m by omega)];by_cases e:x+1=m
  .rw[ax e];have:=hle 0 ag ag;rw[show m-1=x by omega]at this;exact this
  .rw[au e];exact anf x ag
 .intro x hx _;dsimp only;rw[iK,ax rfl];obtain⟨j,hj,ej⟩:=LX.from hx;rw[ej];unfold adG;split
  .exact ajN hp k ag
  .exact ajN hp j ag
 .rw[zX,ax rfl,Rn (g:=out) λj hj=>iT];exact ho
theorem abE(n:Nat)(hn:n<=1048576)(w:ah):(Instr.makeSlice 39 (.int .i64 0) (.int .i64 (n:Int))).run prog w=.ok (.slice (some ⟨w.heap.size,0,none⟩) 0 n) (w.alloc (.cells (madeCells #[.int .i64 0,.int .i64 0,.int .i64 0,.int .i64 0,.slice none 0 0,.slice none 0 0,.slice none 0 0] (n*7)) 41)):=by obtain⟨i0,zo,xY,wW,vV⟩:=cO Tryz.Lc;have:=kC (P:=prog) w 39 41 i0 _ underlying39 zo xY .i64 .i64 0 n ag ag jv ag;exact axA
theorem agR(w:ah)(n B:Nat)(hB:B<=w.heap.size)(hn:n<=1048576):(w.alloc (.cells (madeCells #[.int .i64 0,.int .i64 0,.int .i64 0,.int .i64 0,.slice none 0 0,.slice none 0 0,.slice none 0 0] (n*7)) 41)).ownsRow B 41 7 (.slice (some ⟨w.heap.size,0,none⟩) 0 n) 0 []:=
 ⟨rfl,.inr ⟨w.heap.size,n,madeCells #[.int .i64 0,.int .i64 0,.int .i64 0,.int .i64 0,.slice none 0 0,.slice none 0 0,.slice none 0 0] (n*7),rfl,hB,gU _ _,ag,bT,jw _ _,rfl⟩⟩
def ByI(S:Nat->aK)(ix:Nat->Nat)(n:Nat)(w:ah)(r:Ending)(w':ah):Prop:=
 Below w.heap.size w w'/\∃out v,r=.returned v/\qX n (Wy ix) out/\(∀i,i+1<n->Hp.le (out i).k (out (i+1)).k)/\w'.ownsRow w.heap.size 41 7 v n (zF (λe=>S e.l) n out)
theorem abG(hS:SB S)(ix:Nat->Nat)(n cap:Nat)(bo:aW)(w:ah)(hn:n<=1048576)(hB:SC w bo n S)(hx:∀i,i<n->ix i<256/\(S i)[2]?=some (.int .i64 ((ix i:Nat):Int))):
  Calls prog 22 #[.slice bo n cap] w λr w'=>ByI S ix n w r w':=by
 obtain⟨i0,zo,xY,wW,vV⟩:=cO Tryz.Lc
 have v0:(w.alloc (.cells #[.slice none 0 0] 112)).rowIs w.heap.size 112 1 (λ_=>.slice none 0 0):=
  World.rowIs_alloc w #[.slice none 0 0] 112 (λ_=>.slice none 0 0) (λi hi=>by obtain rfl:i=0:=nT;rfl)
 have b0:Below w.heap.size w (w.alloc (.cells #[.slice none 0 0] 112)):=(aO _ _).alloc (ay _) _;have s0:(w.alloc (.cells #[.slice none 0 0] 112)).heap.size=w.heap.size+1:=aA;have H0:HI S (w.heap.size+1) w.heap.size 0 (Wy ix) (.slice none 0 0) (w.alloc (.cells #[.slice none 0 0] 112)):=⟨v0,bY _ _ _ _,ag,λi hi=>absurd hi ag⟩;go_enter func22,ntmps22;go_wp2;generalize w.alloc (.cells #[.slice none 0 0] 112)=w0 at*;generalize hh:w.heap.size=h at*
 go_loopw [5,9] (λ_ vi wr=>∃(i:Nat)(f':Nat->rU)(v:ai),i<=n/\vi=.int .i64 ((i:Nat):Int)/\HI S (h+1) h i f' v wr/\qX i (Wy ix) f'/\Hp f' i/\Below h w wr/\h+1<=wr.heap.size) (λ_ vi _=>n-(intOf vi).toNat)
 case atStart=>exact⟨0,_,_,ag,rfl,H0,qX.refl _ _,λc _ hc=>absurd hc ag,b0,ag⟩
 case round=>
  clear v0 b0 s0 H0;obtain⟨i,f',v,hi,rfl,H,hR,hp,hb,hs⟩:=hrel;by_cases qB:i<n
  .have xZ:(i:Int)<(n:Int):=ag;obtain⟨b,o,rfl,Jf,hcell⟩:=hB.below hb ag ag;have ri:=hcell i qB;obtain⟨hxi,h2⟩:=hx i qB;have sx:=hS.one i;have kp:=λw1 H1 s1=>agP hS (h+1) h i f' v (Wy ix i) w1 ⟨_,rfl⟩ H1 s1 ag hp
   rw[show(Wy ix i).l=i from rfl,abD hxi]at kp;obtain⟨x1,x2,x3,x4,x5,x6,x7,ex⟩:=eight (hS.len i);rw[ex]at ri h2 sx kp;simp only[jh,jg,gW]at h2;subst h2;obtain⟨p0,p1,p2,p3,p4,p5,p6⟩:=Eg ri;obtain⟨t1,t2,-,t4,t5,t6,t7⟩:=GL sx;have cn:=DR wr [x1,x2,.int .i64 ((ix i:Nat):Int),x4,x5,x6,x7] 41;have c0:=cn 0;have c1:=cn 1;have c2:=cn 2;have c3:=cn 3;have c4:=cn 4;have c5:=cn 5;have c6:=cn 6;simp only[jg,jh]at c0 c1 c2 c3 c4 c5 c6;have H1:HI S (h+1) h i f' v (wr.alloc (.cells #[x1,x2,.int .i64 ((ix i:Nat):Int),x4,x5,x6,x7] 41)):=⟨H.var.alloc _,H.own.alloc _,H.low,H.sg⟩;have b1:=hb.alloc ag (.cells #[x1,x2,.int .i64 ((ix i:Nat):Int),x4,x5,x6,x7] 41);have s1:h+1<=(wr.alloc (.cells #[x1,x2,.int .i64 ((ix i:Nat):Int),x4,x5,x6,x7] 41)).heap.size:=aJ;have kp':=kp _ H1 s1;have LX:qX (i+1) (Wy ix) (λx=>if x=i then Wy ix i else f' x):=hR.snoc (λ_ _=>rfl) (λx hx=>iT) (by rw[ax rfl]);clear H1 H hb cn kp hcell ri sx;generalize E8:wr.alloc (.cells #[x1,x2,.int .i64 ((ix i:Nat):Int),x4,x5,x6,x7] 41)=w1 at*
   go_wp2_with(first
    |(go_at_call 45;(with_reducible refine kp'.mono ?_);rintro r w2 ⟨rfl,f2,v2,H2,hR3,BJ,rq,Gn⟩))
   go_roundw
   case rel=>exact⟨i+1,f2,v2,ag,aV,H2,LX.trans hR3,BJ,b1.trans rq,Gn⟩
   case measure=>simp[intOf];omega
  .obtain rfl:i=n:=ag;have E5:¬((i:Int)<(i:Int)):=ag;have mk:=abE i hn wr;have Fa:=agR wr i (h+1) hs hn;generalize madeCells #[.int .i64 0,.int .i64 0,.int .i64 0,.int .i64 0,.slice none 0 0,.slice none 0 0,.slice none 0 0] (i*7)=Z at*;have H1:HI S (h+1) h i f' v (wr.alloc (.cells Z 41)):=⟨H.var.alloc _,H.own.alloc _,H.low,H.sg⟩;have b1:=hb.alloc ag (.cells Z 41);have s1:h+1<=(wr.alloc (.cells Z 41)).heap.size:=aJ;clear H hb hs;go_wp2;generalize wr.alloc (.cells Z 41)=w1 at*
   go_loopw [6] (λvs wq=>∃(m:Nat)(out fh:Nat->rU)(v:ai),m<=i/\HI S (h+1) h (i-m) fh v wq/\Hp fh (i-m)/\qX i (Wy ix) (λx=>if x<m then out x else fh (x-m))/\(∀x,x+1<m->Hp.le (out x).k (out (x+1)).k)/\(∀x,x<i-m->0<m->Hp.le (out (m-1)).k (fh x).k)/\wq.ownsRow (h+1) 41 7 vs m (zF (λe=>S e.l) m out)/\Below h w wq/\h+1<=wq.heap.size) (λvs _=>match vs with| .slice _ m _=>i-m|_=>0)
   case atStart=>exact⟨0,f',f',v,ag,H1,hp,hR.congr λx _=>by rw[au ag,auI],λx hx=>absurd hx ag,λx _ h0=>absurd h0 ag,Fa,b1,s1⟩
   case round=>
    clear H1 Fa b1 s1 mk hp hR;obtain⟨m,out,fh,v,hm,H,hp,hR,anf,hle,vO,hb,hs⟩:=hrel;have kl:=ajJ H
    obtain⟨bs,cs,rfl⟩:∃bs cs,u6=.slice bs m cs:=by rcases vO.2 with⟨rfl,rfl⟩|⟨g,cap,_,rfl,_⟩<;>exact⟨_,_,rfl⟩
    by_cases hmn:m<i
    .obtain⟨k,hk'⟩:∃k,i-m=k+1:=⟨i-m-1,ag⟩;rw[hk']at H hp kl hle;have hgt:(0:Int)<(k:Int)+1:=ag;have kp:=ajM hS (h+1) h k fh v _ H hs ag hp;unfold aqV at kp;have sy:=hS.one (fh 0).l;have nx:=λ{W2 wa w5 f2 v2 v'}=>agQ (W2:=W2) (wa:=wa) (w5:=w5) (f2:=f2) (v2:=v2) (v':=v') hk' hp hR anf hle H vO hb;obtain⟨y1,y2,y3,y4,y5,y6,y7,ey⟩:=eight (hS.len (fh 0).l);rw[ey]at kp sy nx
     go_wp2_with(first
      |(go_at_call 46;(with_reducible refine kl.mono ?_);rintro r w' ⟨rfl,sH⟩;obtain rfl:=sH.symm)
      |(go_at_call 47;(with_reducible refine kp.mono ?_);rintro r w2 ⟨rfl,f2,v2,H2,LX,BJ,rq,Gn,hfr⟩;have o2:=qH vO λg um=>hfr g (vO.lt g um).2 (λe=>by have:=(vO.lt g um).1;omega) (λe=>x8 vO H.own aB um e.symm))
      |(at_builtin;refine di _ rfl _ _ 39 rfl (h+1) 41 i0 (.agg #[.int .i64 0,.int .i64 0,.int .i64 0,.int .i64 0,.slice none 0 0,.slice none 0 0,.slice none 0 0]) 7 104 underlying39 zo xY wW vV rfl aB _ _ _ rfl (o2.alloc _) ⟨w2.heap.size,0,none⟩ 1 1 [y1,y2,y3,y4,y5,y6,y7] rfl rfl (Hu _ _ _) sy bT ag aJ ?_;intro v' w5 Ae qA _;obtain⟨gq,cq,rfl,_,_⟩:=Ae.form ag))
     go_roundw
     case rel=>exact⟨m+1,λx=>if x=m then fh 0 else out x,f2,v2,nx LX BJ H2 rq Gn hfr ((aO _ _).alloc (ay _) _) qA Ae⟩
     case measure=>simp;omega
    .obtain rfl:m=i:=ag;rw[mZ]at kl;rw[show((0:Nat):Int)=0 from rfl]at kl;have C_:qX m (Wy ix) out:=hR.congr λx hx=>by rw[ax hx]
     clear hp hle hR H
     go_wp2_with(first|(go_at_call 46;(with_reducible refine kl.mono ?_);rintro r w' ⟨rfl,sH⟩;obtain rfl:=sH.symm))
     go_ret;exact⟨by rw[hh];exact hb,out,_,rfl,C_,anf,by rw[hh];exact vO.mono ag⟩
