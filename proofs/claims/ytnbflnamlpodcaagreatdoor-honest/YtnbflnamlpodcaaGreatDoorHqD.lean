import Derived.Deep.MidRow
import Derived.Test.YtnbflnamlpodcaaGreatDoorSumW
set_option maxHeartbeats 8000000
set_option maxRecDepth 100000
namespace Go.Proofs.Y
open Go.Proofs.Tryz
open Go.RowKit Go.Deep Go.Hp
section
variable {c:qX->aK}{s:Nat}
def zK(c:qX->aK)(n:Nat)(f:Nat->qX):aK:=(List.range n).flatMap λi=>c (f i)
theorem Ah(n:Nat)(f:Nat->qX):zK c (n+1) f=zK c n f++c (f n):=by unfold zK;rw[dZ,nP];simp
theorem vG(hc:∀e,(c e).length=s)(n:Nat)(f:Nat->qX):(zK c n f).length=n*s:=by
 induction n with
 |zero=>simp[zK]
 |succ n ih=>rw[Ah,bK,ih,hc,gQ]
theorem QU(hc:∀e,(c e).length=s){n i p:Nat}(f:Nat->qX)(hi:i<n)(hp:p<s):(zK c n f)[i*s+p]?=(c (f i))[p]?:=by
 induction n with
 |zero=>omega
 |succ n ih=>
  rw[Ah];by_cases e:i=n
  .subst e;rw[jE mQ,vG hc,iT]
  .have:i*s+s<=n*s:=by rw[<-gQ];exact jS s ag
   rw[gV mQ,ih ag]
theorem SA{n:Nat}{f g:Nat->qX}(h:∀i,i<n->f i=g i):zK c n f=zK c n g:=by
 induction n with
 |zero=>rfl
 |succ n ih=>rw[Ah,Ah,ih λi hi=>h i ag,h n ag]
def ag6(xs:aK)(p:Nat):aK->aK
 |[]=>xs
 |v::r=>ag6 (xs.set p v) (p+1) r
theorem abX:∀(vs xs:aK)(p m:Nat),p+vs.length<=xs.length->(ag6 xs p vs)[m]?=if p<=m/\m<p+vs.length then vs[m-p]? else xs[m]?
 |[],xs,p,m,_=>by rw[ag6,au ax]
 |v::r,xs,p,m,h=>by
  simp only[dJ]at h⊢;rw[ag6,abX r _ _ _ (by rw[List.length_set];omega)];by_cases e:m=p
  .subst e;rw[au ag,ay ag,lZ,ay rfl,ay ag,lL];rfl
  .by_cases e2:p<=m/\m<p+(r.length+1)
   .rw[ay ag,ay e2,show m-p=(m-(p+1))+1 by omega];rfl
   .rw[au ag,au e2,List.getElem?_set_ne (λx=>e x.symm)]
theorem ag7(hc:∀e,(c e).length=s){n i:Nat}(f:Nat->qX)(hi:i<n)(e:qX):ag6 (zK c n f) (i*s) (c e)=zK c n (λx=>if x=i then e else f x):=by
 have hle:i*s+s<=n*s:=axY;apply jk;intro m;rw[abX _ _ _ _ (by rw[hc,vG hc];exact hle),hc];by_cases hm:m<n*s
 .have hs:0<s:=Nat.pos_of_ne_zero λe=>by rw[e]at hm;simp at hm
  have hq:m=m/s*s+m%s:=by rw[gu];exact(o_ m s).symm
  have hp:=iR m hs;have hqn:m/s<n:=(avS hs).2 hm;generalize m/s=q at*;generalize m%s=p at*;subst hq;rw[QU hc f hqn hp,QU hc _ hqn hp];by_cases e1:q=i
  .subst e1;rw[ay ⟨ag,ag⟩,ay rfl,iT]
  .rw[au,au e1];rintro⟨h1,h2⟩;rcases Nat.lt_or_gt_of_ne e1 with h|h
   .have:q*s+s<=i*s:=axZ;omega
   .have:i*s+s<=q*s:=axZ;omega
 .rw[au ag,g_ mQ,g_ mQ]
theorem YB{B t s g cap n:Nat}:∀(vs:aK)(p:Nat)(xs:aK)(w:ah),w.ownsRow B t s (.slice (some ⟨g,0,none⟩) n cap) n xs->(w.setCells g p vs).ownsRow B t s (.slice (some ⟨g,0,none⟩) n cap) n (ag6 xs p vs)
 |[],_,_,_,h=>h
 |v::r,p,_,_,h=>YB r (p+1) _ _ (h.stored p v).1
theorem y8(hc:∀e,(c e).length=s){w:ah}{B t g cap n i:Nat}{f:Nat->qX}(h:w.ownsRow B t s (.slice (some ⟨g,0,none⟩) n cap) n (zK c n f))(hi:i<n):w.rangeAt g (i*s) (c (f i)):=λj v hv=>by have hj:=(fJ.1 hv).1;rw[hc]at hj;have:i*s+s<=n*s:=axY;rw[h.cellAt _ ag,QU hc _ hi hj];exact hv
end
def Ai(e:qX):Nat:=(e.k.headD 0).toNat
def Sg(n:Nat)(f:Nat->qX):Prop:=∀i,i<n->∃b,(f i).k=[b]
theorem ad1{e e':qX}(h:∃b,e.k=[b])(h':∃b,e'.k=[b]):Hp.lt e.k e'.k=decide (((Ai e:Nat):Int)<((Ai e':Nat):Int)):=by obtain⟨a,ha⟩:=h;obtain⟨b,hb⟩:=h';simp only[Ai,ha,hb,List.headD_cons,Hp.lt,Op.bytesLess,Bool.and_false,Bool.or_false,Int.ofNat_lt,jb]
structure TQ(S:Nat->aK):Prop where
 len:∀i,(S i).length=7
 one:∀i,∀u∈S i,u.oneCell'=true
def JX(S:Nat->aK)(e:qX):aK:=.int .i64 ((Ai e:Nat):Int)::S e.l
theorem wQ{S:Nat->aK}(h:TQ S)(e:qX):(JX S e).length=8:=by simp[JX,h.len]
theorem akd{S:Nat->aK}(h:TQ S)(e:qX):∀u∈JX S e,u.oneCell'=true:=by
 intro u hu;rcases dX.1 hu with rfl|hu
 .rfl
 .exact h.one _ u hu
structure HI(S:Nat->aK)(B h n:Nat)(f:Nat->qX)(v:ai)(w:ah):Prop where
 var:w.rowIs h 132 1 (λ_=>v)
 own:w.ownsRow B 184 8 v n (zK (JX S) n f)
 low:h<B
 sg:Sg n f
section
variable {S:Nat->aK}{B h n:Nat}{f:Nat->qX}{v:ai}{w:ah}
theorem HI.form(H:HI S B h n f v w)(hn:0<n):∃g cap,v=.slice (some ⟨g,0,none⟩) n cap/\B<=g/\n<=cap/\cap<=maxLen:=by
 rcases H.own.2 with⟨_,rfl⟩|⟨g,cap,cur,h1,h2,h3,h4,h5,_⟩
 .omega
 .exact⟨g,cap,h1,h2,h4,h5⟩
theorem HI.slice(H:HI S B h n f v w):∃bo cap,v=.slice bo n cap:=by exact ayz
theorem HI.key(hS:TQ S){g cap:Nat}(H:HI S B h n f (.slice (some ⟨g,0,none⟩) n cap) w){i:Nat}(hi:i<n):w.cell? ⟨g,i*8,none⟩=some (.int .i64 ((Ai (f i):Nat):Int)):=y8 (wQ hS) H.own hi 0 _ rfl
theorem HI.drew(H:HI S B h n f v w)(m:Nat):HI S B h n f v (w.drewN m):=⟨H.var,H.own,H.low,H.sg⟩
theorem SB(hS:TQ S)(B h n i j:Nat)(f:Nat->qX)(v:ai)(w:ah)(H:HI S B h n f v w)(WE:j<n->i<n)(hj:j<4611686018427387904):
  Calls prog 125 #[.pointer (some ⟨h,0,none⟩),.int .i64 ((i:Nat):Int),.int .i64 ((j:Nat):Int)] w λe w'=>e=.returned (.int .i64 ((NV n f i j:Nat):Int))/\∃m,w'=w.drewN m:=by
 have a0:=H.var.cell (i:=0) ag;by_cases hjn:j<n
 .obtain⟨g,cap,rfl,hg,hnc,sU⟩:=H.form ag;have hd:decide ((j:Int)<(n:Int))=true:=aS;have Jh:(j:Int)<(n:Int):=ag;have La:(i:Int)<(n:Int):=by have:=WE hjn;omega
  have cj:=H.key hS hjn;have ci:=H.key hS (WE hjn);have hq:=ad1 (H.sg j hjn) (H.sg i (WE hjn));have hr:NV n f i j=if Hp.lt (f j).k (f i).k then j else i:=by unfold NV;simp[hjn]
  rw[hr,hq];clear H WE hr hq;by_cases hk:((Ai (f j):Nat):Int)<((Ai (f i):Nat):Int)
  .have WA:decide (((Ai (f j):Nat):Int)<((Ai (f i):Nat):Int))=true:=ja hk;rw[WA,ay rfl];go_enter func125,ntmps125
   go_wp2_with fail
   go_big_quiet (fail)
   exact ayn
  .have WA:decide (((Ai (f j):Nat):Int)<((Ai (f i):Nat):Int))=false:=fD hk;rw[WA,au ax];go_enter func125,ntmps125
   go_wp2_with fail
   go_big_quiet (fail)
   exact ayn
 .have hr:NV n f i j=i:=axc;rw[hr];have hd:decide ((j:Int)<(n:Int))=false:=aS;obtain⟨bo,cap,rfl⟩:=H.slice;clear H WE;go_enter func125,ntmps125
  go_wp2_with fail
  go_big_quiet (fail)
  exact ayn
theorem JY{o:Option Nat}{a:ah}{g:Nat}(hg:o=some g):∀(vs:aK)(p:Nat)(w:ah),Bt o a w->Bt o a (w.setCells g p vs)
 |[],_,_,h=>h
 |v::r,p,_,h=>JY hg r (p+1) _ (h.set hg v)
theorem QV{b g:Nat}{t:aF}{n:Nat}{f:Nat->ai}(hne:b≠g):∀(vs:aK)(p:Nat)(w:ah),w.rowIs b t n f->(w.setCells g p vs).rowIs b t n f
 |[],_,_,h=>h
 |v::r,p,_,h=>QV hne r (p+1) _ (h.setOther (a:=⟨g,p,none⟩) hne v)
theorem HI.abY(H:HI S B h n f v w):HI S B h n f v w.drew:=⟨H.var,H.own,H.low,H.sg⟩
theorem Bt.abY{o:Option Nat}{a w:ah}(h:Bt o a w):Bt o a w.drew:=⟨h.os,h.tape,h.output,h.size,h.block⟩
theorem HI.put(hS:TQ S){g cap i:Nat}(H:HI S B h n f (.slice (some ⟨g,0,none⟩) n cap) w)(hi:i<n)(hg:B<=g){e:qX}(he:∃b,e.k=[b]):HI S B h n (λx=>if x=i then e else f x) (.slice (some ⟨g,0,none⟩) n cap) (w.setCells g (i*8) (JX S e)):=by
 have hne:h≠g:=by have:=H.low;omega
 refine⟨QV hne _ _ _ H.var,?_,H.low,λx hx=>?_⟩
 .rw[<-ag7 (wQ hS) f hi e];exact YB _ _ _ _ H.own
 .split
  .exact he
  .exact H.sg x hx
theorem aqC(f:Nat->qX)(i j:Nat):(λx=>if x=j then f i else if x=i then f j else f x)=swp f i j:=by
 funext x
 unfold swp;by_cases e1:x=i
 .by_cases e2:x=j
  .rw[ay e2,ay e1,<-e1,<-e2]
  .rw[au e2,ay e1,ay e1]
 .rw[au e1,au e1]
theorem ad3{w:ah}{B t g cap n o:Nat}{xs:aK}(H:w.ownsRow B t 8 (.slice (some ⟨g,0,none⟩) n cap) n xs)(ho:o+8<=n*8)(x0 x1 x2 x3 x4 x5 x6 _x7:ai):
  ((∃y,w.cell? ⟨g,o,none⟩=some y)/\w.frozen? ⟨g,o,none⟩=false)/\((∃y,(w.setCell ⟨g,o,none⟩ x0).cell? ⟨g,o+1,none⟩=some y)/\(w.setCell ⟨g,o,none⟩ x0).frozen? ⟨g,o+1,none⟩=false)/\((∃y,((w.setCell ⟨g,o,none⟩ x0).setCell ⟨g,o+1,none⟩ x1).cell? ⟨g,o+2,none⟩=some y)/\((w.setCell ⟨g,o,none⟩ x0).setCell ⟨g,o+1,none⟩ x1).frozen? ⟨g,o+2,none⟩=false)/\((∃y,(((w.setCell ⟨g,o,none⟩ x0).setCell ⟨g,o+1,none⟩ x1).setCell ⟨g,o+2,none⟩ x2).cell? ⟨g,o+3,none⟩=some y)/\(((w.setCell ⟨g,o,none⟩ x0).setCell ⟨g,o+1,none⟩ x1).setCell ⟨g,o+2,none⟩ x2).frozen? ⟨g,o+3,none⟩=false)/\((∃y,((((w.setCell ⟨g,o,none⟩ x0).setCell ⟨g,o+1,none⟩ x1).setCell ⟨g,o+2,none⟩ x2).setCell ⟨g,o+3,none⟩ x3).cell? ⟨g,o+4,none⟩=some y)/\((((w.setCell ⟨g,o,none⟩ x0).setCell ⟨g,o+1,none⟩ x1).setCell ⟨g,o+2,none⟩ x2).setCell ⟨g,o+3,none⟩ x3).frozen? ⟨g,o+4,none⟩=false)/\((∃y,(((((w.setCell ⟨g,o,none⟩ x0).setCell ⟨g,o+1,none⟩ x1).setCell ⟨g,o+2,none⟩ x2).setCell ⟨g,o+3,none⟩ x3).setCell ⟨g,o+4,none⟩ x4).cell? ⟨g,o+5,none⟩=some y)/\(((((w.setCell ⟨g,o,none⟩ x0).setCell ⟨g,o+1,none⟩ x1).setCell ⟨g,o+2,none⟩ x2).setCell ⟨g,o+3,none⟩ x3).setCell ⟨g,o+4,none⟩ x4).frozen? ⟨g,o+5,none⟩=false)/\((∃y,((((((w.setCell ⟨g,o,none⟩ x0).setCell ⟨g,o+1,none⟩ x1).setCell ⟨g,o+2,none⟩ x2).setCell ⟨g,o+3,none⟩ x3).setCell ⟨g,o+4,none⟩ x4).setCell ⟨g,o+5,none⟩ x5).cell? ⟨g,o+6,none⟩=some y)/\((((((w.setCell ⟨g,o,none⟩ x0).setCell ⟨g,o+1,none⟩ x1).setCell ⟨g,o+2,none⟩ x2).setCell ⟨g,o+3,none⟩ x3).setCell ⟨g,o+4,none⟩ x4).setCell ⟨g,o+5,none⟩ x5).frozen? ⟨g,o+6,none⟩=false)/\((∃y,(((((((w.setCell ⟨g,o,none⟩ x0).setCell ⟨g,o+1,none⟩ x1).setCell ⟨g,o+2,none⟩ x2).setCell ⟨g,o+3,none⟩ x3).setCell ⟨g,o+4,none⟩ x4).setCell ⟨g,o+5,none⟩ x5).setCell ⟨g,o+6,none⟩ x6).cell? ⟨g,o+7,none⟩=some y)/\(((((((w.setCell ⟨g,o,none⟩ x0).setCell ⟨g,o+1,none⟩ x1).setCell ⟨g,o+2,none⟩ x2).setCell ⟨g,o+3,none⟩ x3).setCell ⟨g,o+4,none⟩ x4).setCell ⟨g,o+5,none⟩ x5).setCell ⟨g,o+6,none⟩ x6).frozen? ⟨g,o+7,none⟩=false):=by
 have k:∀(w:ah)(xs:aK)(p:Nat),w.ownsRow B t 8 (.slice (some ⟨g,0,none⟩) n cap) n xs->p<n*8->(∃y,w.cell? ⟨g,p,none⟩=some y)/\w.frozen? ⟨g,p,none⟩=false:=λw xs p o hp=>⟨⟨xs[p]' awz,awy⟩,o.frozenAt p⟩
 have h1:=(H.stored (o) x0).1;have h2:=(h1.stored (o+1) x1).1;have h3:=(h2.stored (o+2) x2).1;have h4:=(h3.stored (o+3) x3).1;have h5:=(h4.stored (o+4) x4).1;have h6:=(h5.stored (o+5) x5).1;have h7:=(h6.stored (o+6) x6).1;exact⟨k _ _ _ H ag,k _ _ _ h1 ag,k _ _ _ h2 ag,k _ _ _ h3 ag,k _ _ _ h4 ag,k _ _ _ h5 ag,k _ _ _ h6 ag,k _ _ _ h7 ag⟩
theorem eight{l:aK}(h:l.length=7):∃a b c d e x y,l=[a,b,c,d,e,x,y]:=by
 match l,h with
 |[a,b,c,d,e,x,y],_=>exact⟨a,b,c,d,e,x,y,rfl⟩
theorem yB(u:ai)(h:u.oneCell'=true)(w:ah)(a:Addr):(store a u).run prog w=stored prog w a u .plain:=run_store prog w a u .plain h
theorem G6{a b c d e x y:ai}(h:∀u∈[a,b,c,d,e,x,y],u.oneCell'=true):
  (∀w p,(store p a).run prog w=stored prog w p a .plain)/\(∀w p,(store p b).run prog w=stored prog w p b .plain)/\(∀w p,(store p c).run prog w=stored prog w p c .plain)/\(∀w p,(store p d).run prog w=stored prog w p d .plain)/\(∀w p,(store p e).run prog w=stored prog w p e .plain)/\(∀w p,(store p x).run prog w=stored prog w p x .plain)/\(∀w p,(store p y).run prog w=stored prog w p y .plain):=
 ⟨yB a (h a ax),yB b (h b ax),yB c (h c ax),yB d (h d ax),yB e (h e ax),yB x (h x ax),yB y (h y ax)⟩
theorem Vz{w:ah}{g o:Nat}{a b c d e x y z:ai}(h:w.rangeAt g o [a,b,c,d,e,x,y,z]):w.cell? ⟨g,o,none⟩=some a/\w.cell? ⟨g,o+1,none⟩=some b/\w.cell? ⟨g,o+2,none⟩=some c/\w.cell? ⟨g,o+3,none⟩=some d/\w.cell? ⟨g,o+4,none⟩=some e/\w.cell? ⟨g,o+5,none⟩=some x/\w.cell? ⟨g,o+6,none⟩=some y/\w.cell? ⟨g,o+7,none⟩=some z:=
 ⟨h 0 _ rfl,h 1 _ rfl,h 2 _ rfl,h 3 _ rfl,h 4 _ rfl,h 5 _ rfl,h 6 _ rfl,h 7 _ rfl⟩
theorem YC(hS:TQ S)(B h n i j:Nat)(f:Nat->qX)(v:ai)(w:ah)(H:HI S B h n f v w)(hi:i<n)(hj:j<n):
  Calls prog 124 #[.pointer (some ⟨h,0,none⟩),.int .i64 ((i:Nat):Int),.int .i64 ((j:Nat):Int)] w λe w'=>e=.returned (.tuple #[])/\HI S B h n (swp f i j) v w'/\Bt v.ownBlock w w':=by
 obtain⟨g,cap,rfl,hg,hnc,sU⟩:=H.form ag;have La:(i:Int)<(n:Int):=ag;have Jh:(j:Int)<(n:Int):=ag;have a0:=H.var.cell (i:=0) ag;have ri:=y8 (wQ hS) H.own hi;have rj:=y8 (wQ hS) H.own hj;have H1:=H.put hS hi hg (H.sg j hj);have H2:=H1.put hS hj hg (H.sg i hi);have hb:=JY (o:=some g) rfl (JX S (f i)) (j*8) _ (JY (o:=some g) rfl (JX S (f j)) (i*8) w (Bt.refl _ _));rw[aqC]at H2;have o0:=H.own;have o1:=H1.own;simp only[JX]at ri rj H2 hb o1;have sa:=hS.one (f i).l;have sb:=hS.one (f j).l;obtain⟨a1,a2,a3,a4,a5,a6,a7,ea⟩:=eight (hS.len (f i).l);obtain⟨b1,b2,b3,b4,b5,b6,b7,eb⟩:=eight (hS.len (f j).l);rw[ea]at ri H2 hb sa;rw[eb]at rj H2 hb o1 sb;have tk:=λ(n:Int)=>yB (.int .i64 n) rfl;obtain⟨t1,t2,t3,t4,t5,t6,t7⟩:=G6 sa;obtain⟨v1,v2,v3,v4,v5,v6,v7⟩:=G6 sb;obtain⟨p0,p1,p2,p3,p4,p5,p6,p7⟩:=Vz ri;obtain⟨q0,q1,q2,q3,q4,q5,q6,q7⟩:=Vz rj;obtain⟨⟨-,z0⟩,⟨⟨_,c1⟩,z1⟩,⟨⟨_,c2⟩,z2⟩,⟨⟨_,c3⟩,z3⟩,⟨⟨_,c4⟩,z4⟩,⟨⟨_,c5⟩,z5⟩,⟨⟨_,c6⟩,z6⟩,⟨_,c7⟩,z7⟩:=ad3 o0 (o:=i*8) ag (.int .i64 ((Ai (f j):Nat):Int)) b1 b2 b3 b4 b5 b6 b7;obtain⟨⟨⟨_,d0⟩,y0⟩,⟨⟨_,d1⟩,y1⟩,⟨⟨_,d2⟩,y2⟩,⟨⟨_,d3⟩,y3⟩,⟨⟨_,d4⟩,y4⟩,⟨⟨_,d5⟩,y5⟩,⟨⟨_,d6⟩,y6⟩,⟨_,d7⟩,y7⟩:=ad3 o1 (o:=j*8) ag (.int .i64 ((Ai (f i):Nat):Int)) a1 a2 a3 a4 a5 a6 a7;simp only[World.setCells,dW,Nat.reduceAdd]at d0 d1 d2 d3 d4 d5 d6 d7 y0 y1 y2 y3 y4 y5 y6 y7 H2 hb;clear H H1 o0 o1 ri rj ea eb sa sb;generalize Ai (f i)=ka at*;generalize Ai (f j)=kb at*;go_enter func124,ntmps124;go_wp2;go_region;go_end0;refine⟨rfl,?_,?_⟩
 .with_reducible exact H2.abY
 .show Bt (some g) w _
  with_reducible exact hb.abY
end
section
variable {S:Nat->aK}
def an5(S:Nat->aK)(B h n:Nat)(f:Nat->qX)(v:ai)(w:ah)(e:Ending)(w':ah):Prop:=e=.returned (.tuple #[])/\∃f',HI S B h n f' v w'/\qR n f f'/\Hp f' n/\Bt v.ownBlock w w'
theorem abZ(hS:TQ S)(B h n i:Nat)(f:Nat->qX)(v:ai)(w:ah)(H:HI S B h n f v w)(hi:i<n)(hu:abS f n i):
  Calls prog 103 #[.pointer (some ⟨h,0,none⟩),.int .i64 ((i:Nat):Int)] w λe w'=>an5 S B h n f v w e w':=by
 obtain⟨g,cap,rfl,hg,hnc,sU⟩:=H.form ag;have XU:cap<=9223372036854775807:=sU;clear sU;go_enter func103,ntmps103;go_wp2
 go_loopw [1,4] (λvi _ wr=>∃(i:Nat)(f':Nat->qX),i<n/\vi=.int .i64 ((i:Nat):Int)/\HI S B h n f' (.slice (some ⟨g,0,none⟩) n cap) wr/\qR n f f'/\abS f' n i/\Bt (some g) w wr) (λvi _ _=>(intOf vi).toNat)
 case atStart=>exact⟨i,f,hi,rfl,H,qR.refl n f,hu,Bt.refl _ _⟩
 case round=>
  clear H hi hu;obtain⟨i,f',hi,rfl,H,hR,hu,hb⟩:=hrel;by_cases h0:0<i
  .have h0':(0:Int)<(i:Int):=ag;have a0:=H.var.cell (i:=0) ag;have hp:(i-1)/2<i:=ag
   have hq:Int.tdiv ((i:Int)-1) 2=(((i-1)/2:Nat):Int):=by rw[av3 ag];omega
   have c1:=H.key hS (i:=(i-1)/2) ag;have c2:=H.key hS hi;have hlk:=ad1 (H.sg i hi) (H.sg ((i-1)/2) ag);have cs:=λm=>YC hS B h n ((i-1)/2) i f' _ (wr.drewN m) (H.drew m) ag hi
   have hus:=λhl=>afA hu h0 hi hl
   have uw:=λhl=>Us hu (λ_=>hl)
   have hRs:=hR.trans (qR.swp f' (show(i-1)/2<n by omega) hi);generalize hpp:(i-1)/2=p at*;have hp':(p:Int)<(n:Int):=ag;have La:(i:Int)<(n:Int):=ag;by_cases hkk:((Ai (f' p):Nat):Int)<=((Ai (f' i):Nat):Int)
   rotate_left
   .have hle:decide (((Ai (f' p):Nat):Int)<=((Ai (f' i):Nat):Int))=false:=fD hkk;have hl:Hp.lt (f' i).k (f' p).k=true:=by rw[hlk];exact ja ag
    have apQ:=hus hl;clear hus uw hl
    go_wp2_with fail
    go_big_quiet (fail)
    have cs':=cs nq;have hbq:=hb.drew nq;have hbs:=hbq.size;clear cs H hb;generalize wr.drewN nq=wq at*
    go_wp2_with(first|(go_at_call 124;(with_reducible refine cs'.mono ?_);rintro e w2 ⟨rfl,hH2,tX⟩))
    go_roundw
    case rel=>exact⟨p,_,ag,rfl,hH2,hRs,apQ,hbq.trans tX⟩
    case measure=>simp[intOf];omega
   .have hle:decide (((Ai (f' p):Nat):Int)<=((Ai (f' i):Nat):Int))=true:=ja hkk;have hl:=uw (show Hp.lt (f' i).k (f' p).k=false by rw[hlk];exact fD ag);clear hus uw
    go_wp2_with fail
    go_big_quiet (fail)
    have H2:=H.drew nq;have hbq:=hb.drew nq;clear cs H hb;generalize wr.drewN nq=wq at*;go_wp2;go_end0;exact⟨rfl,f',H2,hR,hl,hbq⟩
  .have h0':¬((0:Int)<(i:Int)):=ag;go_wp2;go_end0;exact azD
theorem Xo(hS:TQ S)(B h n i:Nat)(f:Nat->qX)(v:ai)(w:ah)(H:HI S B h n f v w)(hn:n<=4398046511104)(hi:i<n\/i=0)(hu:abT f n i):
  Calls prog 104 #[.pointer (some ⟨h,0,none⟩),.int .i64 ((i:Nat):Int)] w λe w'=>an5 S B h n f v w e w':=by
 go_enter func104,ntmps104;go_wp2
 go_loopw [1,4] (λvi _ wr=>∃(i:Nat)(f':Nat->qX),(i<n\/i=0)/\vi=.int .i64 ((i:Nat):Int)/\HI S B h n f' v wr/\qR n f f'/\abT f' n i/\Bt v.ownBlock w wr) (λvi _ _=>n-(intOf vi).toNat)
 case atStart=>exact⟨i,f,hi,rfl,H,qR.refl n f,hu,Bt.refl _ _⟩
 case round=>
  clear H hi hu;obtain⟨i,f',hi,rfl,H,hR,hu,hb⟩:=hrel;obtain⟨l1,l2,l3⟩:=afD n f' i;have k1:=SB hS B h n (2*i+1) (2*i+2) f' v wr H ag ag;generalize ha:NV n f' (2*i+1) (2*i+2)=a at*;have k2:=λw' (H':HI S B h n f' v w')=>SB hS B h n i a f' v w' H' (λ_=>ag) ag
  have dr:∀{w1 w2:ah},HI S B h n f' v w1->Bt v.ownBlock w w1->(∃m,w2=w1.drewN m)->HI S B h n f' v w2/\Bt v.ownBlock w w2:=λ{w1 w2} h1 h2 ⟨m,e⟩=>axf;have e1:2*((i:Nat):Int)+1=((2*i+1:Nat):Int):=ag;have e2:2*((i:Nat):Int)+2=((2*i+2:Nat):Int):=ag;by_cases hx:a<n/\Hp.lt (f' a).k (f' i).k=true
  .have el:NV n f' i a=a:=by unfold NV;rw[ay hx]
   have P8:i<n:=ag;rw[el]at k2;have hs:=afC hu (show 0<a by omega) hx.1 ag hx.2 (l2 hx.1);have cs:=λw' (H':HI S B h n f' v w')=>YC hS B h n a i f' v w' H' hx.1 P8
   have hRs:=hR.trans (qR.swp f' hx.1 P8);have hne:((a:Int)==(i:Int))=false:=aS;have qK:=hx.1;clear hx el l2 l3 hu ha;generalize Ho:2*i+1=i1 at*;generalize hi3:2*i+2=i2 at*
   go_wp2_with(first
    |(go_at_call 125;(with_reducible refine k1.mono ?_);rintro e w1 ⟨rfl,BB⟩;(obtain⟨H1,uu⟩:=dr H hb BB);clear BB H hb k1)
    |(go_at_call 125;(with_reducible refine(k2 _ H1).mono ?_);rintro e w2 ⟨rfl,yf⟩;(obtain⟨H2,tX⟩:=dr H1 uu yf);clear yf H1 uu k2)
    |(go_at_call 124;(with_reducible refine(cs _ H2).mono ?_);rintro e w3 ⟨rfl,H3,wI⟩))
   go_roundw
   case rel=>exact⟨a,_,.inl qK,rfl,H3,hRs,hs,tX.trans wI⟩
   case measure=>simp[intOf];omega
  .have el:NV n f' i a=i:=by unfold NV;rw[au hx]
   rw[el]at k2
   have hs:Hp f' n:=afB hu λc h0 hc hci=>by
    rcases l3 with l3|l3
    .rcases hy:Hp.lt (f' a).k (f' i).k with _|_
     .exact le_trans hy (l2 l3 c h0 hc hci)
     .exact absurd ⟨l3,hy⟩ hx
    .exact absurd hci (l3 c h0 hc)
   have hne:((i:Int)==(i:Int))=true:=ax;clear hx el l2 l3 hu ha;generalize Ho:2*i+1=i1 at*;generalize hi3:2*i+2=i2 at*
   go_wp2_with(first
    |(go_at_call 125;(with_reducible refine k1.mono ?_);rintro e w1 ⟨rfl,BB⟩;(obtain⟨H1,uu⟩:=dr H hb BB);clear BB H hb k1)
    |(go_at_call 125;(with_reducible refine(k2 _ H1).mono ?_);rintro e w2 ⟨rfl,yf⟩;(obtain⟨H2,tX⟩:=dr H1 uu yf);clear yf H1 uu k2))
   go_end0;exact⟨rfl,f',H2,hR,hs,tX⟩
end
theorem Ew(w:ah)(l:aK)(t:aF)(j:Nat):(w.alloc (.cells l.toArray t)).cell? ⟨w.heap.size,j,none⟩=l[j]?:=by simp only[World.cell?,fC];simp
theorem Hq(w:ah)(l:aK)(t:aF):∀j u,l[j]?=some u->(w.alloc (.cells l.toArray t)).cell? ((⟨w.heap.size,0,none⟩:Addr).add j)=some u:=λj u h=>by rw[Addr.add_mid,bM,Ew];exact h
theorem Tryz.ake:(prog.info? 184).map (λi=>(i.zero,i.size,i.bytes))=some (some (.agg #[.int .i64 0,.int .i64 0,.int .i64 0,.int .i64 0,.int .i64 0,.slice none 0 0,.slice none 0 0,.slice none 0 0]),8,112):=aj
section
variable {S:Nat->aK}{B h n:Nat}{f:Nat->qX}{v:ai}{w:ah}
theorem akf(H:HI S B h n f v w):Calls prog 61 #[.pointer (some ⟨h,0,none⟩)] w λr w'=>r=.returned (.int .i64 ((n:Nat):Int))/\w'=w:=by have a0:=H.var.cell (i:=0) ag;obtain⟨bo,cap,rfl⟩:=H.slice;clear H;go_enter func61,ntmps61;exact ayj
theorem HI.push{v':ai}{e:qX}{wa w1:ah}(he:∃b,e.k=[b])(H:HI S B h n f v w)(hB:B<=w.heap.size)(ha:Below w.heap.size w wa)(hg:wa.grownBy w1 v.ownBlock)(ho:w1.ownsRow B 184 8 v' (n+1) (zK (JX S) n f++JX S e)):
  HI S B h (n+1) (λx=>if x=n then e else f x) v' (w1.setCell ⟨h,0,none⟩ v')/\w1.cell? ⟨h,0,none⟩=some v/\w1.frozen? ⟨h,0,none⟩=false/\Below h w (w1.setCell ⟨h,0,none⟩ v')/\B<=(w1.setCell ⟨h,0,none⟩ v').heap.size:=by
 have uI:=H.low;have hsa:=ha.size;have k:w1.heap[h]?=w.heap[h]?:=(hg.block h ag (λe'=>ayf)).trans (ha.block h ag);have r:=H.var.of_block k;have I_:Below B w w1:=((ha.mono hB).grown hg ag (λx hx=>(H.own.lt x hx).1));have yE:=I_.size;refine⟨⟨(r.set 0 v').congr λi hi=>avt,?_,uI,λx hx=>?_⟩,r.cell (i:=0) ag,r.frozen 0,?_,aS⟩
 .rw[Ah,ay rfl,SA (g:=f) λi hi=>iq];exact eQ ho (a:=⟨h,0,none⟩) uI v'
 .split
  .exact he
  .exact H.sg x ag
 .exact azp
theorem ag8(hS:TQ S)(B h n:Nat)(f:Nat->qX)(v:ai)(e:qX)(w:ah)(he:∃b,e.k=[b])(H:HI S B h n f v w)(hB:B<=w.heap.size)(hn:n<=1048576)(hp:Hp f n):
  Calls prog 60 #[.pointer (some ⟨h,0,none⟩),.int .i64 ((Ai e:Nat):Int),.agg (S e.l).toArray] w λr w'=>r=.returned (.tuple #[])/\∃f' v',HI S B h (n+1) f' v' w'/\qR (n+1) (λx=>if x=n then e else f x) f'/\Hp f' (n+1)/\Below h w w'/\B<=w'.heap.size:=by
 obtain⟨i0,Ak,yz,xA,wH⟩:=dm Tryz.ake;have uI:=H.low;have hex:∀{w0 wa w1:ah}{v':ai},HI S B h n f v w0->_:=λ{w0 wa w1 v'} H0 Jj=>HI.push (wa:=wa) (w1:=w1) (v':=v') he H0 Jj;have h1c:=akd hS e;have hcn:=λw t=>Hq w (JX S e) t
 unfold JX at hcn h1c;have cn:=λw t=>Ew w (S e.l) t
 have Hg:=wQ hS e;obtain⟨x1,x2,x3,x4,x5,x6,x7,ex⟩:=eight (hS.len e.l);unfold JX at Hg;have e7:JX S e=[.int .i64 ((Ai e:Nat):Int),x1,x2,x3,x4,x5,x6,x7]:=by rw[JX,ex]
 rw[e7]at hex;rw[ex]at hcn h1c cn Hg⊢;have b0:Below h w (w.alloc (.cells #[x1,x2,x3,x4,x5,x6,x7] 55)):=(aT _ _).alloc ag _;have H0:HI S B h n f v (w.alloc (.cells #[x1,x2,x3,x4,x5,x6,x7] 55)):=⟨H.var.alloc _,H.own.alloc _,H.low,H.sg⟩;have Jj:B<=(w.alloc (.cells #[x1,x2,x3,x4,x5,x6,x7] 55)).heap.size:=aS;have c0:=cn w 55 0;have c1:=cn w 55 1;have c2:=cn w 55 2;have c3:=cn w 55 3;have c4:=cn w 55 4;have c5:=cn w 55 5;have c6:=cn w 55 6;simp only[jB,jD]at c0 c1 c2 c3 c4 c5 c6;obtain⟨bo,cap,rfl⟩:=H.slice;clear H hB cn;go_enter func60,ntmps60
 go_wp2_with fail
 have a0:=H0.var.cell (i:=0) ag;have a0':=(H0.var.alloc (.cells #[.int .i64 ((Ai e:Nat):Int),x1,x2,x3,x4,x5,x6,x7] 184)).cell (i:=0) ag;generalize Nu:w.alloc (.cells #[x1,x2,x3,x4,x5,x6,x7] 55)=w0 at*;clear Nu
 go_region_law ((refine JV rfl _ _ 130 rfl B 184 i0 (.agg #[.int .i64 0,.int .i64 0,.int .i64 0,.int .i64 0,.int .i64 0,.slice none 0 0,.slice none 0 0,.slice none 0 0]) 8 112 underlying130 Ak yz xA wH rfl aC _ _ _ rfl ((H0.own.alloc _).drew) ⟨w0.heap.size,0,none⟩ 1 1 [.int .i64 ((Ai e:Nat):Int),x1,x2,x3,x4,x5,x6,x7] rfl rfl (hcn _ _) h1c dB ag aS ?_;intro v' w1 xJ sO hwh;obtain⟨gq,cq,rfl,_,_⟩:=xJ.form ag;obtain⟨H2,d1,d2,tX,Ap⟩:=hex H0 Jj (((aT w0.heap.size w0).alloc (az _) _).drew) sO xJ))
 all_goals
  have k3:=abZ hS B h (n+1) n _ _ _ H2 ag (abW hp);have g0:=H2.var.cell (i:=0) ag;have I_:=b0.trans tX;clear H0 H2 a0 a0' c0 c1 c2 c3 c4 c5 c6 d1 d2 b0 tX sO hwh hex;generalize w1.setCell ⟨h,0,none⟩ (.slice (some ⟨gq,0,none⟩) (n+1) cq)=w2 at*
  go_wp2_with(first|(go_at_call 103;(with_reducible refine k3.mono ?_);rintro r w3 ⟨rfl,f',H3,WN,hp3,wI⟩))
  go_end0;exact azC
end
section
variable {S:Nat->aK}{B h n:Nat}{f:Nat->qX}{v:ai}{w:ah}
theorem apR{w:ah}{R t:Nat}{z1 z2 z3 z4 z5 z6 z7:ai}(h:w.heap[R]?=some (.cells #[z1,z2,z3,z4,z5,z6,z7] t))(x1 x2 x3 x4 x5 x6 x7:ai):
  (w.cell? ⟨R,0,none⟩=some z1/\w.frozen? ⟨R,0,none⟩=false)/\((w.setCell ⟨R,0,none⟩ x1).cell? ⟨R,1,none⟩=some z2/\(w.setCell ⟨R,0,none⟩ x1).frozen? ⟨R,1,none⟩=false)/\(((w.setCell ⟨R,0,none⟩ x1).setCell ⟨R,1,none⟩ x2).cell? ⟨R,2,none⟩=some z3/\((w.setCell ⟨R,0,none⟩ x1).setCell ⟨R,1,none⟩ x2).frozen? ⟨R,2,none⟩=false)/\((((w.setCell ⟨R,0,none⟩ x1).setCell ⟨R,1,none⟩ x2).setCell ⟨R,2,none⟩ x3).cell? ⟨R,3,none⟩=some z4/\(((w.setCell ⟨R,0,none⟩ x1).setCell ⟨R,1,none⟩ x2).setCell ⟨R,2,none⟩ x3).frozen? ⟨R,3,none⟩=false)/\(((((w.setCell ⟨R,0,none⟩ x1).setCell ⟨R,1,none⟩ x2).setCell ⟨R,2,none⟩ x3).setCell ⟨R,3,none⟩ x4).cell? ⟨R,4,none⟩=some z5/\((((w.setCell ⟨R,0,none⟩ x1).setCell ⟨R,1,none⟩ x2).setCell ⟨R,2,none⟩ x3).setCell ⟨R,3,none⟩ x4).frozen? ⟨R,4,none⟩=false)/\((((((w.setCell ⟨R,0,none⟩ x1).setCell ⟨R,1,none⟩ x2).setCell ⟨R,2,none⟩ x3).setCell ⟨R,3,none⟩ x4).setCell ⟨R,4,none⟩ x5).cell? ⟨R,5,none⟩=some z6/\(((((w.setCell ⟨R,0,none⟩ x1).setCell ⟨R,1,none⟩ x2).setCell ⟨R,2,none⟩ x3).setCell ⟨R,3,none⟩ x4).setCell ⟨R,4,none⟩ x5).frozen? ⟨R,5,none⟩=false)/\(((((((w.setCell ⟨R,0,none⟩ x1).setCell ⟨R,1,none⟩ x2).setCell ⟨R,2,none⟩ x3).setCell ⟨R,3,none⟩ x4).setCell ⟨R,4,none⟩ x5).setCell ⟨R,5,none⟩ x6).cell? ⟨R,6,none⟩=some z7/\((((((w.setCell ⟨R,0,none⟩ x1).setCell ⟨R,1,none⟩ x2).setCell ⟨R,2,none⟩ x3).setCell ⟨R,3,none⟩ x4).setCell ⟨R,4,none⟩ x5).setCell ⟨R,5,none⟩ x6).frozen? ⟨R,6,none⟩=false)/\(((((((w.setCell ⟨R,0,none⟩ x1).setCell ⟨R,1,none⟩ x2).setCell ⟨R,2,none⟩ x3).setCell ⟨R,3,none⟩ x4).setCell ⟨R,4,none⟩ x5).setCell ⟨R,5,none⟩ x6).setCell ⟨R,6,none⟩ x7).heap[R]?=some (.cells #[x1,x2,x3,x4,x5,x6,x7] t):=by
 have h1:(World.setCell _ ⟨R,0,none⟩ x1).heap[R]?=some (.cells #[x1,z2,z3,z4,z5,z6,z7] t):=kK _ R 0 _ t x1 h;have h2:(World.setCell _ ⟨R,1,none⟩ x2).heap[R]?=some (.cells #[x1,x2,z3,z4,z5,z6,z7] t):=kK _ R 1 _ t x2 h1;have h3:(World.setCell _ ⟨R,2,none⟩ x3).heap[R]?=some (.cells #[x1,x2,x3,z4,z5,z6,z7] t):=kK _ R 2 _ t x3 h2;have h4:(World.setCell _ ⟨R,3,none⟩ x4).heap[R]?=some (.cells #[x1,x2,x3,x4,z5,z6,z7] t):=kK _ R 3 _ t x4 h3;have h5:(World.setCell _ ⟨R,4,none⟩ x5).heap[R]?=some (.cells #[x1,x2,x3,x4,x5,z6,z7] t):=kK _ R 4 _ t x5 h4;have h6:(World.setCell _ ⟨R,5,none⟩ x6).heap[R]?=some (.cells #[x1,x2,x3,x4,x5,x6,z7] t):=kK _ R 5 _ t x6 h5;have h7:(World.setCell _ ⟨R,6,none⟩ x7).heap[R]?=some (.cells #[x1,x2,x3,x4,x5,x6,x7] t):=kK _ R 6 _ t x7 h6;exact⟨⟨cell_of _ h 0,wK _ h 0⟩,⟨cell_of _ h1 1,wK _ h1 1⟩,⟨cell_of _ h2 2,wK _ h2 2⟩,⟨cell_of _ h3 3,wK _ h3 3⟩,⟨cell_of _ h4 4,wK _ h4 4⟩,⟨cell_of _ h5 5,wK _ h5 5⟩,⟨cell_of _ h6 6,wK _ h6 6⟩,h7⟩
theorem akg{c:qX->aK}{s:Nat}(hc:∀e,(c e).length=s){w:ah}{B t n g cap:Nat}{f:Nat->qX}(h:w.ownsRow B t s (.slice (some ⟨g,0,none⟩) (n+1) cap) (n+1) (zK c (n+1) f)):w.ownsRow B t s (.slice (some ⟨g,0,none⟩) n cap) n (zK c n f):=by
 refine⟨vG hc n f,.inr ?_⟩;rcases h.2 with⟨h1,_⟩|⟨g',Wn,cur,h1,h2,h3,h4,h5,h6,h7⟩
 .cases h1
 .cases h1;refine⟨g,cap,cur,rfl,h2,h3,ag,h5,h6,?_⟩;have:=bI (List.take (n*s)) h7;rw[List.take_take,oP (jS s ag),Ah,avT mQ]at this;rw[this,jg mQ]
theorem IX{B t s m g:Nat}{v:ai}{xs:aK}(hv:v.ownBlock≠some g):∀(vs:aK)(p:Nat)(w:ah),w.ownsRow B t s v m xs->(w.setCells g p vs).ownsRow B t s v m xs
 |[],_,_,h=>h
 |u::r,p,_,h=>IX hv r (p+1) _ (ownsRow_setCell_other h (a:=⟨g,p,none⟩) hv u)
theorem pack{W:ah}{g m:Nat}{w1:ah}(H:HI S B h n f v W)(k2:∀b,b≠g->W.heap[b]?=w1.heap[b]?)(k3:W.heap.size=m)(b:Bt (some g) w1 W):HI S B h n f v W.drew/\(∀b,b≠g->W.drew.heap[b]?=w1.heap[b]?)/\W.drew.heap.size=m/\Bt (some g) w1 W.drew:=⟨H.abY,k2,k3,b.abY⟩
def arK(S:Nat->aK)(B h n:Nat)(f:Nat->qX)(v:ai)(w:ah)(r:Ending)(w':ah):Prop:=r=.returned (.agg (S (f 0).l).toArray)/\∃f' v',HI S B h n f' v' w'/\qR n (O1 n f) f'/\Hp f' n/\Below h w w'/\B<=w'.heap.size/\∀b,b<w.heap.size->b≠h->some b≠v.ownBlock->w'.heap[b]?=w.heap[b]?
theorem akh(hS:TQ S)(B h n:Nat)(f:Nat->qX)(v:ai)(w:ah)(H:HI S B h (n+1) f v w)(hB:B<=w.heap.size)(hn:n<=1048576)(hp:Hp f (n+1)):
  Calls prog 62 #[.pointer (some ⟨h,0,none⟩)] w λr w'=>arK S B h n f v w r w':=by
 obtain⟨g,cap,rfl,hg,hnc,sU⟩:=H.form ag;have XU:cap<=9223372036854775807:=sU;clear sU;have uI:=H.low;have H0:HI S B h (n+1) f (.slice (some ⟨g,0,none⟩) (n+1) cap) (w.alloc (.cells #[.int .i64 0,.int .i64 0,.int .i64 0,.int .i64 0,.slice none 0 0,.slice none 0 0,.slice none 0 0] 55)):=⟨H.var.alloc _,H.own.alloc _,H.low,H.sg⟩;have s0:(w.alloc (.cells #[.int .i64 0,.int .i64 0,.int .i64 0,.int .i64 0,.slice none 0 0,.slice none 0 0,.slice none 0 0] 55)).heap.size=w.heap.size+1:=ax;have r0:=y8 (wQ hS) H0.own (i:=0) ag;have sx:=hS.one (f 0).l;obtain⟨x1,x2,x3,x4,x5,x6,x7,ex⟩:=eight (hS.len (f 0).l);unfold JX at r0;rw[ex]at r0 sx;obtain⟨p0,p1,p2,p3,p4,p5,p6,p7⟩:=Vz r0;simp only[gX,bM]at p0 p1 p2 p3 p4 p5 p6 p7;obtain⟨t1,t2,t3,t4,t5,t6,t7⟩:=G6 sx;have a0:=H0.var.cell (i:=0) ag;have H1:HI S B h (n+1) f (.slice (some ⟨g,0,none⟩) (n+1) cap) ((w.alloc (.cells #[.int .i64 0,.int .i64 0,.int .i64 0,.int .i64 0,.slice none 0 0,.slice none 0 0,.slice none 0 0] 55)).alloc (.cells #[x1,x2,x3,x4,x5,x6,x7] 55)):=⟨H0.var.alloc _,H0.own.alloc _,H0.low,H0.sg⟩
 have nF:((w.alloc (.cells #[.int .i64 0,.int .i64 0,.int .i64 0,.int .i64 0,.slice none 0 0,.slice none 0 0,.slice none 0 0] 55)).alloc (.cells #[x1,x2,x3,x4,x5,x6,x7] 55)).heap[w.heap.size+1]?=some (.cells #[x1,x2,x3,x4,x5,x6,x7] 55):=by rw[<-s0];exact fC _ _
 have nR:((w.alloc (.cells #[.int .i64 0,.int .i64 0,.int .i64 0,.int .i64 0,.slice none 0 0,.slice none 0 0,.slice none 0 0] 55)).alloc (.cells #[x1,x2,x3,x4,x5,x6,x7] 55)).heap[w.heap.size]?=some (.cells #[.int .i64 0,.int .i64 0,.int .i64 0,.int .i64 0,.slice none 0 0,.slice none 0 0,.slice none 0 0] 55):=(dI _ _ _ ag).trans (fC _ _);have b1:Below w.heap.size w ((w.alloc (.cells #[.int .i64 0,.int .i64 0,.int .i64 0,.int .i64 0,.slice none 0 0,.slice none 0 0,.slice none 0 0] 55)).alloc (.cells #[x1,x2,x3,x4,x5,x6,x7] 55)):=((aT _ _).alloc (az _) _).alloc ag _;have s1:((w.alloc (.cells #[.int .i64 0,.int .i64 0,.int .i64 0,.int .i64 0,.slice none 0 0,.slice none 0 0,.slice none 0 0] 55)).alloc (.cells #[x1,x2,x3,x4,x5,x6,x7] 55)).heap.size=w.heap.size+2:=ax;have a1:=H1.var.cell (i:=0) ag;have ed:((n:Int)+1)-1=(n:Int):=ag;have Hg:(n:Int)<((n+1:Nat):Int):=ag;have Ci:(n:Int)<=(cap:Int):=ag
 have hgR:g<w.heap.size:=by
  rcases H.own.2 with⟨q,_⟩|⟨g',Wn,cur,q,_,q3,_⟩
  .cases q
  .cases q;exact(dh.1 q3).1
 go_enter func62,ntmps62;clear H
 go_wp2_with fail
 generalize(w.alloc (.cells #[.int .i64 0,.int .i64 0,.int .i64 0,.int .i64 0,.slice none 0 0,.slice none 0 0,.slice none 0 0] 55)).alloc (.cells #[x1,x2,x3,x4,x5,x6,x7] 55)=w1 at*;clear H0 a0 p0 p1 p2 p3 p4 p5 p6 p7 s0 r0;have sy:=hS.one (f n).l;have rn:=y8 (wQ hS) H1.own (i:=n) ag;have rz:=y8 (wQ hS) H1.own (i:=0) ag;have H2:=H1.put hS (i:=0) ag hg (H1.sg n ag);have o1:=H1.own;obtain⟨y1,y2,y3,y4,y5,y6,y7,ey⟩:=eight (hS.len (f n).l);unfold JX at rn rz H2;rw[ey]at rn sy H2;rw[ex]at rz;obtain⟨q0,q1,q2,q3,q4,q5,q6,q7⟩:=Vz rn;obtain⟨p0,-⟩:=Vz rz;simp only[gX]at p0;obtain⟨u1,u2,u3,u4,u5,u6,u7⟩:=G6 sy;obtain⟨⟨-,z0⟩,⟨⟨_,c1⟩,z1⟩,⟨⟨_,c2⟩,z2⟩,⟨⟨_,c3⟩,z3⟩,⟨⟨_,c4⟩,z4⟩,⟨⟨_,c5⟩,z5⟩,⟨⟨_,c6⟩,z6⟩,⟨_,c7⟩,z7⟩:=ad3 o1 (o:=0) ag (.int .i64 ((Ai (f n):Nat):Int)) y1 y2 y3 y4 y5 y6 y7
 have k2:∀b,b≠g->(w1.setCells g (0*8) (.int .i64 ((Ai (f n):Nat):Int)::[y1,y2,y3,y4,y5,y6,y7])).heap[b]?=w1.heap[b]?:=λb hb=>by
  simp only[World.setCells]
  iterate 8 rw[dD _ _ _ _ hb]
 have k3:(w1.setCells g (0*8) (.int .i64 ((Ai (f n):Nat):Int)::[y1,y2,y3,y4,y5,y6,y7])).heap.size=w.heap.size+2:=by simp only[World.setCells];simpa using s1
 have b2:=JY (o:=some g) rfl (.int .i64 ((Ai (f n):Nat):Int)::[y1,y2,y3,y4,y5,y6,y7]) (0*8) w1 (Bt.refl _ _);simp only[World.setCells,gX,bM,Nat.reduceAdd]at c1 c2 c3 c4 c5 c6 c7 z0 z1 z2 z3 z4 z5 z6 z7 H2 k2 k3 b2;clear o1 rn rz sy;go_region;obtain⟨H2d,k2d,k3d,b2d⟩:=pack H2 k2 k3 b2;clear a1 p0 q0 q1 q2 q3 q4 q5 q6 q7 c1 c2 c3 c4 c5 c6 c7 z0 z1 z2 z3 z4 z5 z6 z7 H1 H2 k2 k3 b2 u1 u2 u3 u4 u5 u6 u7;generalize World.drew _=W3 at H2d b2d k2d k3d⊢;have g0:=H2d.var.cell (i:=0) ag;have g1:=H2d.var.frozen 0
 have H3:HI S B h n (O1 n f) (.slice (some ⟨g,0,none⟩) n cap) (W3.setCell ⟨h,0,none⟩ (.slice (some ⟨g,0,none⟩) n cap)):=
  ⟨(H2d.var.set 0 (.slice (some ⟨g,0,none⟩) n cap)).congr λi hi=>avt,eQ (akg (wQ hS) H2d.own) (a:=⟨h,0,none⟩) uI _,uI,λi hi=>H2d.sg i ag⟩
 have nF3:(W3.setCell ⟨h,0,none⟩ (.slice (some ⟨g,0,none⟩) n cap)).heap[w.heap.size+1]?=some (.cells #[x1,x2,x3,x4,x5,x6,x7] 55):=(dD _ _ _ _ (by show w.heap.size+1≠h;omega)).trans ((k2d _ ag).trans nF);have nR3:=(dD W3 ⟨h,0,none⟩ (.slice (some ⟨g,0,none⟩) n cap) w.heap.size (by show w.heap.size≠h;omega)).trans ((k2d _ ag).trans nR);have s3:(W3.setCell ⟨h,0,none⟩ (.slice (some ⟨g,0,none⟩) n cap)).heap.size=w.heap.size+2:=by simpa using k3d
 have k5:=Xo hS B h n 0 (O1 n f) _ _ H3 ag (.inr rfl) (aki hp);rw[show((0:Nat):Int)=0 from rfl]at k5;have c7:=λ(W:ah)(hR:W.heap[w.heap.size]?=some (.cells #[.int .i64 0,.int .i64 0,.int .i64 0,.int .i64 0,.slice none 0 0,.slice none 0 0,.slice none 0 0] 55))=>apR hR x1 x2 x3 x4 x5 x6 x7;clear H2d nF nR
 go_wp2_with(first|(go_at_call 104;(with_reducible refine k5.mono ?_);rintro r W5 ⟨rfl,f',H5,hR5,hp5,P_⟩;have nF5:=(P_.block (w.heap.size+1) ag avn).trans nF3;have nR5:=(P_.block w.heap.size ag avn).trans nR3;obtain⟨⟨e0,d0⟩,⟨e1,d1⟩,⟨e2,d2⟩,⟨e3,d3⟩,⟨e4,d4⟩,⟨e5,d5⟩,⟨e6,d6⟩,DR⟩:=c7 W5 nR5;have m0:=cell_of W5 nF5 0;have m1:=cell_of W5 nF5 1;have m2:=cell_of W5 nF5 2;have m3:=cell_of W5 nF5 3;have m4:=cell_of W5 nF5 4;have m5:=cell_of W5 nF5 5;have m6:=cell_of W5 nF5 6;simp at m0 m1 m2 m3 m4 m5 m6;clear c7))
 have DY:=P_.size;have b6:=JY (o:=some w.heap.size) rfl [x1,x2,x3,x4,x5,x6,x7] 0 W5 (Bt.refl _ _);have H6:HI S B h n f' (.slice (some ⟨g,0,none⟩) n cap) (W5.setCells w.heap.size 0 [x1,x2,x3,x4,x5,x6,x7]):=⟨QV ag _ _ _ H5.var,IX avn _ _ _ H5.own,H5.low,H5.sg⟩
 have Qc:∀b,b<w.heap.size->b≠h->b≠g->(W5.setCells w.heap.size 0 [x1,x2,x3,x4,x5,x6,x7]).heap[b]?=w.heap[b]?:=λb hb h1 h2=>by rw[b6.block b ag aS,P_.block b ag avn,dD _ _ _ _ h1,k2d b h2,b1.block b hb]
 have Om:Below h w (W5.setCells w.heap.size 0 [x1,x2,x3,x4,x5,x6,x7]):=⟨b6.os.trans (P_.os.trans (b2d.os.trans b1.os)),b6.tape.trans (P_.tape.trans (b2d.tape.trans b1.tape)),b6.output.trans (P_.output.trans (b2d.output.trans b1.output)),by have:=b6.size;omega,λb hb=>Qc b ag ag ag⟩;have hs6:B<=(W5.setCells w.heap.size 0 [x1,x2,x3,x4,x5,x6,x7]).heap.size:=by have:=b6.size;omega
 simp only[World.setCells,bM,Nat.reduceAdd]at Qc H6 Om hs6;refine iD (oI (p:=2) rfl _ _ w.heap.size 55 _ (0,0) _ aI DR underlying55 rfl aj) rfl ?_;exact⟨by rw[ex],f',_,H6,hR5,hp5,Om,hs6,λb hb h1 h2=>Qc b hb h1 (λe=>h2 avw)⟩
