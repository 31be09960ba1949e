import Derived.Test.YtnbflnamlpodcaaGreatDoorCoL
import Derived.Shelf.Abstract
import Derived.OwnWalkIn
import Derived.LoopNIn
import Derived.LoopIn
import Derived.Sort.QuietIn
import Derived.RangeFuncNested
set_option maxHeartbeats 8000000
set_option maxRecDepth 100000
namespace Go.Proofs.Y
open Go.RowKit Go.Deep Go.Lf Go.Conc Go.ConcN Go.Gh
open Go.ConcR (Payload WgAt wgBlock)
theorem sfC:∃fn,Tryz.prog.funcs[29]?=some fn:=⟨_,Tryz.func29⟩
noncomputable def gc3:Code:=qA (qA (qA zD))
noncomputable def qg3:{x:Array Oper//x=uq (qM gc3)}:=⟨_,by simp only[gc3,zD,qM,qA,uq,Tryz.f29,aQ];rfl⟩
noncomputable def og3:Array Oper:=qg3.1
theorem aoR:gc3=.seq (.region 3 og3 false) Ar:=aj
theorem ng3:og3.size=1:=aj
def TPc(bk bd ba:Nat)(T:aB):Prop:=∃f:Nat->ai,T=#[f 0,f 1,f 2,.pointer (some ⟨bk,0,none⟩),f 4,f 5,f 6,.pointer (some ⟨bd,0,none⟩),.pointer (some ⟨ba,0,none⟩),f 9,f 10,f 11,f 12,f 13,f 14,f 15,f 16,f 17,f 18,f 19,f 20,f 21,f 22,f 23,f 24,f 25]
theorem aql{bk bd ba:Nat}{T:aB}(h:T=#[ae T 0,ae T 1,ae T 2,.pointer (some ⟨bk,0,none⟩),ae T 4,ae T 5,ae T 6,.pointer (some ⟨bd,0,none⟩),.pointer (some ⟨ba,0,none⟩),ae T 9,ae T 10,ae T 11,ae T 12,ae T 13,ae T 14,ae T 15,ae T 16,ae T 17,ae T 18,ae T 19,ae T 20,ae T 21,ae T 22,ae T 23,ae T 24,ae T 25]):TPc bk bd ba T:=⟨λi=>T.getD i undef,h⟩
structure PFc(k n L:Nat)(l:ak)(bk bd P F ba C:Nat)(w:ah):Prop where
 vk:w.cell? ⟨bk,0,none⟩=some (.int .i64 ((k:Nat):Int))
 vd:w.cell? ⟨bd,0,none⟩=some (.slice (some ⟨P,0,none⟩) k k)
 hP:∀j,j<k->w.cell? ⟨P,j,none⟩=some (.slice (some ⟨F,j*L,none⟩) L (k*L-j*L))
 hF:∀i,i<k*L->w.cell? ⟨F,i,none⟩=some (.int .u8 ((tZ l i:Nat):Int))
 va:w.cell? ⟨ba,0,none⟩=some (.slice (some ⟨C,0,none⟩) n n)
 pay:w.heap[C]?=some (.cells (madeCells #[.slice none 0 0] n) 34)
 new:bk<C/\bd<C/\P<C/\F<C/\C<ba/\ba<w.heap.size
section
variable {X:Nat->Prop}{Y:Nat->aV}{D:Nat->ah->aH->Prop}{Stop:aG->ah->Prop}{w:ah}{k n:Nat}{l:ak}{vd:ai}
theorem RU(hD:uU X D){cs:aP}(hk0:1<=k)(hkn:k<=n)(hn:n<=128)(hl:l.length<=65536)(hv:qU w vd (sJ l))
  (qJ:∀(bk bd P F ba C:Nat)(T:aB)(w1:ah),TPc bk bd ba T->PFc k n (ug k l.length) l bk bd P F ba C w1->(∀b,b<w.heap.size->b<C)->(w.heap.size<=bk/\w.heap.size<=bd/\w.heap.size<=P/\w.heap.size<=F)->sH w.heap.size w w1->uA Tryz.prog X Y D Stop 29 cs [.code gc3] ⟨T,[]⟩ w1):
  uA Tryz.prog X Y D Stop 29 cs [.code zD] ⟨#[.int .i64 ((k:Nat):Int),.int .i64 ((n:Nat):Int),vd]++Array.replicate 23 undef,[]⟩ w:=by
 unfold zD;simp only[Tryz.f29,aQ,dR,dQ,dM,dP,dA,bT]
 have one:∀(u:ah)(x:ai)(t:aF),(u.alloc (.cells #[x] t)).rowIs u.heap.size t 1 (λ_=>x):=λu x t=>World.rowIs_alloc u #[x] t (λ_=>x) (λi hi=>by obtain rfl:i=0:=jq;rfl)
 refine rf qV hD aj rfl sfC λR hR τ d'=>?_
 have hvA:qU ({w with tape:=τ,drawn:=d'}:ah) vd (sJ l):=hv;have hzA:({w with tape:=τ,drawn:=d'}:ah).heap.size<=w.heap.size:=az _;have hzB:w.heap.size<=({w with tape:=τ,drawn:=d'}:ah).heap.size:=az _;have hbA:sH w.heap.size w {w with tape:=τ,drawn:=d'}:=(sH.refl _ w).tp τ d';generalize({w with tape:=τ,drawn:=d'}:ah)=wA at hvA hzA hzB hbA⊢;have y0:=one wA (.int .i64 ((k:Nat):Int)) 3;have b0:Below wA.heap.size wA (wA.alloc (.cells #[.int .i64 ((k:Nat):Int)] 3)):=(aT _ _).alloc (az _) _;have s0:(wA.alloc (.cells #[.int .i64 ((k:Nat):Int)] 3)).heap.size=wA.heap.size+1:=ax;go_wp2;have hv0:=hvA.below b0;have bl0:=hbA.trans (sH.of b0) hzB;generalize wA.alloc (.cells #[.int .i64 ((k:Nat):Int)] 3)=w0 at y0 b0 s0 hv0 bl0⊢;clear b0;refine rf qV hD aj rfl sfC λR hR τ d'=>?_
 replace hv0:qU ({w0 with tape:=τ,drawn:=d'}:ah) vd (sJ l):=hv0;replace y0:({w0 with tape:=τ,drawn:=d'}:ah).rowIs wA.heap.size 3 1 (λ_=>.int .i64 ((k:Nat):Int)):=y0;replace s0:({w0 with tape:=τ,drawn:=d'}:ah).heap.size=wA.heap.size+1:=s0;replace bl0:=bl0.tp τ d';generalize({w0 with tape:=τ,drawn:=d'}:ah)=w0 at hv0 y0 s0 bl0⊢;generalize Jk:wA.heap.size=bk at*;have c1:=al1 k hk0 ag vd l hl w0 hv0;have g0:=y0.cell (i:=0) ag
 go_wp2_with(first|(go_at_call 47;(with_reducible refine c1.mono ?_);rintro e w1 ⟨P,F,rfl,hPc⟩))
 have hlo:=hPc.lo;have uu:=hPc.AO;have atY:=hPc.list.lt;have atZ:=hPc.row.lt;have yE:=uu.size;have v1:=one w1 (.slice (some ⟨P,0,none⟩) k k) 28;have s2:(w1.alloc (.cells #[.slice (some ⟨P,0,none⟩) k k] 28)).heap.size=w1.heap.size+1:=ax;have ba1:Below w1.heap.size w1 (w1.alloc (.cells #[.slice (some ⟨P,0,none⟩) k k] 28)):=(aT _ _).alloc (az _) _;have LX:=(bl0.trans (sH.of uu) ag).trans (sH.of ba1) ag;have y1:=(y0.of_block (uu.block bk ag)).of_block (ba1.block bk ag);have hls:=hPc.list.of_block (ba1.block P atY);have hrw:=hPc.row.of_block (ba1.block F atZ);generalize w1.alloc (.cells #[.slice (some ⟨P,0,none⟩) k k] 28)=wB at v1 s2 LX y1 hls hrw⊢;generalize hbd:w1.heap.size=bd at*;clear hPc uu c1 g0 hv0 ba1;refine rf qV hD aj rfl sfC λR hR τ d'=>?_
 replace hls:({wB with tape:=τ,drawn:=d'}:ah).rowIs _ _ _ _:=hls;replace hrw:({wB with tape:=τ,drawn:=d'}:ah).rowIs _ _ _ _:=hrw;replace y1:({wB with tape:=τ,drawn:=d'}:ah).rowIs _ _ _ _:=y1;replace v1:({wB with tape:=τ,drawn:=d'}:ah).rowIs _ _ _ _:=v1;replace s2:({wB with tape:=τ,drawn:=d'}:ah).heap.size=bd+1:=s2;replace LX:=LX.tp τ d';generalize({wB with tape:=τ,drawn:=d'}:ah)=wB at hls hrw y1 v1 s2 LX⊢;have m2:=EJ n hn wB;rw[s2]at m2;generalize hZ:madeCells #[.slice none 0 0] n=Z at*
 have z2:(wB.alloc (.cells Z 34)).heap[bd+1]?=some (.cells Z 34):=by have:=fC wB (.cells Z 34);rwa[s2]at this
 have s3:(wB.alloc (.cells Z 34)).heap.size=bd+2:=by simp[s2]
 have v2:=v1.alloc (.cells Z 34);have b2:Below (bd+1) wB (wB.alloc (.cells Z 34)):=(aT _ _).alloc ag _;go_wp2;generalize wB.alloc (.cells Z 34)=w2 at z2 s3 v2 b2⊢;have v3:=one w2 (.slice (some ⟨bd+1,0,none⟩) n n) 28;rw[s3]at v3;have b3:=b2.alloc ag (.cells #[.slice (some ⟨bd+1,0,none⟩) n n] 28);have z3:(w2.alloc (.cells #[.slice (some ⟨bd+1,0,none⟩) n n] 28)).heap[bd+1]?=some (.cells Z 34):=(dI _ _ _ ag).trans z2;have v4:=v2.alloc (.cells #[.slice (some ⟨bd+1,0,none⟩) n n] 28);have s4:(w2.alloc (.cells #[.slice (some ⟨bd+1,0,none⟩) n n] 28)).heap.size=bd+3:=by simp[s3]
 generalize w2.alloc (.cells #[.slice (some ⟨bd+1,0,none⟩) n n] 28)=w3 at*;have y3:=y1.of_block (b3.block bk ag);have l3:=hls.of_block (b3.block P ag);have f3:=hrw.of_block (b3.block F ag);refine qJ bk bd P F (bd+2) (bd+1) _ w3 (aql rfl) ⟨y3.cell (i:=0) ag,v4.cell (i:=0) ag,λj hj=>l3.cell hj,λi hi=>f3.cell hi,v3.cell (i:=0) ag,by rw[hZ];exact z3,⟨ag,ag,ag,ag,ag,ag⟩⟩ (λb hb=>ag) ⟨ag,ag,ag,ag⟩ (LX.trans (sH.of b3) ag)
end
section
variable {k n L:Nat}
def IL(F k L:Nat)(l:ak)(j:Nat):UK:=⟨some ⟨F,j*L,none⟩,F,j*L,k*L-j*L,(List.range L).map λm=>tZ l (j*L+m)⟩
def Ja(k L:Nat)(l:ak)(bk bd P F ba:Nat)(h0:Nat->aV):F9:={ba:=ba,bk:=bk,bd:=bd,bD:=P,oD:=0,cD:=k,cs:=(List.range k).map (IL F k L l),h0:=h0}
theorem GU{n i j:Nat}(h:(List.range n)[i]?=some j):i<n/\j=i:=by obtain⟨h1,h2⟩:=fJ.1 h;simp at h1 h2;exact⟨h1,h2.symm⟩
theorem afe{l:ak}{bk bd P F ba:Nat}{h0:Nat->aV}(hk:0<k/\k<=128)(hn:n<=128)(hL:L<=140737488355328):QA (Ja k L l bk bd P F ba h0) k n L:=by refine⟨hk.1,hk.2,hn,hL,by simp[Ja],λc hc=>?_⟩;simp only[Ja,gz]at hc;obtain⟨j,_,rfl⟩:=hc;refine⟨by simp[IL,DU],λy hy=>?_⟩;simp only[IL,gz]at hy;obtain⟨m,_,rfl⟩:=hy;unfold tZ;exact(l.getD _ 0).toNat_lt
theorem uQ{W:ah}{b o:Nat}{u:ai}(x:Obj)(h:W.cell? ⟨b,o,none⟩=some u):(W.alloc x).cell? ⟨b,o,none⟩=some u:=by have hb:=rG h;simp only[World.cell?,dI _ _ _ hb]at h⊢;exact h
theorem EL{X:Nat->Prop}{Y:Nat->aV}{w v:ah}{b:Nat}{c:aB}{t:aF}{fr:Nat×Nat}(h:xZ X Y w v)(hx:¬X b)(hb:v.heap[b]?=some (.cells c t fr)):w.heap[b]?=some (.cells c t fr):=by
 cases hy:Y b with
 |none=>rw[h.same b hx hy];exact hb
 |some o=>
  obtain⟨o',_,h2,hg⟩:=h.gho b _ hy;rw[hb]at h2;cases h2;rcases hg with⟨_,_,_,h4⟩|⟨_,_,_,h4⟩<;>cases h4
theorem Yi[Payload][rq](Ej:Payload.ety=34){X:Nat->Prop}{Y:Nat->aV}{v3 W:ah}{l:ak}{lw bk bd P F ba C:Nat}(hold:∀b,rq.old b->b<lw)(hX:∀b,X b->b<lw)(Ws:lw<=bk/\lw<=bd/\lw<=P/\lw<=F)(hs:xZ X Y W v3)(hP:PFc k n L l bk bd P F ba C v3){Wg:Nat}(hWg:W.heap.size=Wg+1)(hba:ba<Wg):
  Aa Wg C k n (Wg+1) L (Ja k L l bk bd P F ba (λb=>W.heap[b]?)) (Wg+1) (gw W []):=by
 obtain⟨n1,n2,n3,n4,n5,n6⟩:=hP.new;have hsz:=hs.size;have st:∀{b o:Nat}{u:ai},v3.cell? ⟨b,o,none⟩=some u->(gw W []).cell? ⟨b,o,none⟩=some u:=λ{b o u} h=>(show W.cell? ⟨b,o,none⟩=some u from OX hs h);have lo:∀{b:Nat},b<Wg->b≠C->lw<=b->LoC Wg C (Wg+1) b:=λ{b} h h' hl=>⟨ag,ag,h',λho=>by have:=hold b ho;omega⟩;have ahQ:(gw W []).heap.size=Wg+1:=hWg
 have hcs:∀{t:Nat}{c:UK},((List.range k).map (IL F k L l))[t]?=some c->t<k/\c=IL F k L l t:=λ{t c} e=>by exact azH
 refine⟨⟨?_,ag,ag,λb hb=>?_⟩,⟨madeCells #[.slice none 0 0] n,?_,iO _ _⟩,⟨lo (b:=ba) ag ag ag,lo (b:=bk) ag ag ag,lo (b:=bd) ag ag ag,lo (b:=P) ag ag ag,st hP.va,st hP.vk,st hP.vd,λj c e=>?_,λc hc=>?_,λb _ _ _=>rfl⟩,⟨ag,ag,ag⟩⟩
 .unfold gw;rw[x8];exact az _
 .unfold gw at hb;rw[vP]at hb;cases hb
 .exact azt
 .obtain⟨h1,rfl⟩:=hcs e;simp only[Ja,IL,bM];exact st (hP.hP j h1)
 .simp only[Ja,gz,fH]at hc;obtain⟨t,ht,rfl⟩:=hc;refine⟨lo (by show F<_;omega) (by show F≠C;omega) (by show lw<=F;omega),λ_=>rfl,λi y e=>?_⟩;simp only[IL,dO]at e⊢;obtain⟨j',Jh,rfl⟩:=dL.1 e;obtain⟨h1,rfl⟩:=GU Jh;refine st (hP.hF _ ?_);have:t*L+L<=k*L:=by rw[<-gQ];exact jS L ht
  omega
theorem afi{W v:ah}{X:Nat->Prop}{b o:Nat}{u:ai}(hk:∀b c t fr,¬X b->W.heap[b]?=some (.cells c t fr)->v.heap[b]?=some (.cells c t fr))(hb:¬X b)(h:W.cell? ⟨b,o,none⟩=some u):v.cell? ⟨b,o,none⟩=some u:=by
 have h':=h;unfold World.cell? at h';cases e:W.heap[b]? with
 |none=>simp only[e]at h';cases h'
 |some x=>
  cases x with
  |cells c t fr=>
   have:=hk b c t fr hb e;simp only[World.cell?,e]at h;simp only[World.cell?,this];exact h
  |_=>simp only[e]at h';cases h'
theorem aff[Payload][rq]{X:Nat->Prop}{Y:Nat->aV}{w2 v3 W W' v':ah}{s0:Nat}{lb ids:aA}{l:ak}{bk bd P F ba C:Nat}(hs:xZ X Y W v3){Wg:Nat}(hWg:W.heap.size=Wg+1)(atc:ba<Wg)(hb:sH w2.heap.size w2 v3)(uI:∀b,b<w2.heap.size->b<C)(hP:PFc k n L l bk bd P F ba C v3)
  (hk:∀b c t fr,¬(X b\/b=Wg)->W'.heap[b]?=some (.cells c t fr)->v'.heap[b]?=some (.cells c t fr)) (hX:∀b,X b->b<w2.heap.size)
  (hF:Aa Wg C k n (Wg+1) L (Ja k L l bk bd P F ba (λb=>W.heap[b]?)) s0 (gw W' lb)) (BL:∀x,x∈ids↔x<n)
  (Ce:∀x∈ids,∃v l',Has C x v W'/\W_ C L ((Ja k L l bk bd P F ba (λb=>W.heap[b]?)).res k L) x v (gw W' l')/\∀b∈l',Wg+1<=b):
  (∃dN:Nat->Nat,∀t,t<n->v'.cell? ⟨C,t,none⟩=some (.slice (some ⟨dN t,0,none⟩) L L)/\v'.heap[dN t]?=some (.cells (uh ((Ja k L l bk bd P F ba (λb=>W.heap[b]?)).res k L t)) 5))/\(∀{b o:Nat}{u:ai},w2.cell? ⟨b,o,none⟩=some u->v'.cell? ⟨b,o,none⟩=some u)/\v'.cell? ⟨ba,0,none⟩=some (.slice (some ⟨C,0,none⟩) n n):=by
 obtain⟨n1,n2,n3,n4,n5,n6⟩:=hP.new;have hsz:=hs.size;have up:∀{b o:Nat}{u:ai},¬X b->b≠Wg->W'.cell? ⟨b,o,none⟩=some u->v'.cell? ⟨b,o,none⟩=some u:=λhx hb h=>afi (X:=λb=>X b\/b=Wg) hk (λe=>e.elim hx hb) h
 have lw:∀{b o:Nat}{u:ai},b<Wg->b≠C->v3.cell? ⟨b,o,none⟩=some u->v'.cell? ⟨b,o,none⟩=some u:=λ{b o u} h h' hc=>by exact azT
 have l2:∀{b o:Nat}{u:ai},w2.cell? ⟨b,o,none⟩=some u->v'.cell? ⟨b,o,none⟩=some u:=λ{b o u} hc=>by have h1:b<w2.heap.size:=rG hc;have h2:=uI _ h1;exact lw (by have:=hb.sN;omega) ag ((Below.cell (p:=⟨b,o,none⟩) hb h1).trans hc)
 have aeR:∀t,t<n->∃N',v'.cell? ⟨C,t,none⟩=some (.slice (some ⟨N',0,none⟩) L L)/\v'.heap[N']?=some (.cells (uh ((Ja k L l bk bd P F ba (λb=>W.heap[b]?)).res k L t)) 5):=by intro t ht;obtain⟨v,l',h1,⟨N',rfl,hmn,_,h2⟩,FI⟩:=Ce t ((BL t).2 ht);have hN':=FI N' ((yZ W' l' N').1 hmn);refine⟨N',up (λhx=>by have:=hX C hx;have:=uI C this;omega) ag h1,hk N' _ _ _ (λe=>?_) h2⟩;have e:=e.resolve_left (λhx=>by have:=hX N' hx;have:=uI N' this;omega);omega
 refine⟨⟨λt=>if h:t<n then(aeR t h).choose else 0,λt ht=>?_⟩,l2,lw ag ag hP.va⟩;simp only[lI ht];exact(aeR t ht).choose_spec
end
structure Kept(w w':ah):Prop where
 os:w'.os=w.os
 output:w'.output=w.output
 size:w.heap.size<=w'.heap.size
 block:∀b,b<w.heap.size->w'.heap[b]?=w.heap[b]?
theorem xZ.agree{X:Nat->Prop}{Y:Nat->aV}{w w' v v':ah}(h:xZ X Y w v)(h':xZ X Y w' v'){b:Nat}(hx:¬X b)(e:v'.heap[b]?=v.heap[b]?):w'.heap[b]?=w.heap[b]?:=by
 cases hy:Y b with
 |none=>rw[h.same b hx hy,h'.same b hx hy,e]
 |some o=>
  obtain⟨_,h1,_⟩:=h.gho b o hy;obtain⟨_,h2,_⟩:=h'.gho b o hy;rw[h1,h2]
section
variable {P:aN}{F:aU->Bool}{X:Nat->Prop}{Y:Nat->aV}{D:Nat->ah->aH->Prop}{Stop:aG->ah->Prop}{f:aU}{k:b_}{cs:aP}{a:Act}{v:ah}{ops:Array Oper}{i:Nat}{rest:aA}{o:Oper}
end
section
variable {X:Nat->Prop}{Y:Nat->aV}{D:Nat->ah->aH->Prop}{Stop:aG->ah->Prop}{v:ah}{n C Wg j:Nat}{E:F9}{cs:aP}{f:aJ}
theorem anU(hD:uU X D){T:aB}{ops:Array Oper}(hT:TC E Wg n j T)(hba:v.cell? ⟨E.ba,0,none⟩=some (.slice (some ⟨C,0,none⟩) n n))
  (Rw:∀τ d,∀w,qQ X Y w {v with tape:=τ,drawn:=d}->r_ Tryz.prog D Stop (G (f.finish (.slice (some ⟨C,0,none⟩) n n)) cs) w):
  uA Tryz.prog X Y D Stop 29 (f::cs) (.inRegion ops []::[.code ae_]) ⟨T,[]⟩ v:=by
 have hD0:uU X D:=hD;obtain⟨f0,rfl⟩:=hT;refine aaT hD0 ?_;unfold ae_;simp only[aq2,aq1];refine rf qV hD aj rfl sfC λR hR τ d'=>?_
 have uu:({v with tape:=τ,drawn:=d'}:ah).cell? ⟨E.ba,0,none⟩=some (.slice (some ⟨C,0,none⟩) n n):=hba;have hv1:=Rw τ d';generalize{v with tape:=τ,drawn:=d'}=v1 at uu hv1⊢;go_wp2;refine Ju (y:=.slice (some ⟨C,0,none⟩) n n) hD rfl Tryz.func29 (λτ d=>?_) hv1;exact lH (fn:=Tryz.f29) (t:=6) rfl _ _ _
end
end Go.Proofs.Y
namespace Go.Proofs.Y
open Go.RowKit Go.Deep Go.Shelf
attribute [local go_sem] Oper.semAt_some
structure KpC(n₀ sb nb:Nat)(A B:ah):Prop where
 below:Below n₀ A B
 s:B.heap[sb]?=A.heap[sb]?
 n:B.heap[nb]?=A.heap[nb]?
def Vh(b off len c k:Nat):ai:=.slice (some ⟨b,off+k*c,none⟩) (min c (len-k*c)) (min c (len-k*c))
abbrev FrK(c len:Nat):={k:Nat//k*c<len}
end Go.Proofs.Y
namespace Go.Proofs.Y
open Go.RowKit Go.Deep Go.Shelf
attribute [local go_sem] Oper.semAt_some
theorem rO.set{B lb:Nat}{w:ah}{v u:ai}{l:ak}(h:rO B w v l)(hL:Boxed w lb 34 u)(v':ai):rO B (w.setCell ⟨lb,0,none⟩ v') v l:=
 World.ownsRow.kept h (grownBy_setCell' w lb v') (.inr (hL.not_row aC h).symm)
theorem ql.arj{w:ah}{b lb:Nat}{cs:aK}{t:aF}(h:ql w b cs t)(hne:b≠lb)(v:ai):ql (w.setCell ⟨lb,0,none⟩ v) b cs t:=
 (dD _ _ _ b hne).trans h
def LL(M:ak)(c:Nat)(qH:ak){len:Nat}(pre:List (FrK c len)):ak:=M++pre.flatMap λx=>yt c qH x.1
theorem aju(M:ak)(c:Nat)(qH:ak){len:Nat}(pre:List (FrK c len))(n:Nat)(h:pre.map Subtype.val=List.range n):LL M c qH pre=M++su c qH n:=by unfold LL su;rw[<-h,List.flatMap_map]
theorem XP(c:Nat)(qH:ak)(k:Nat):(yt c qH k).length<=c+8:=by
 unfold yt;rw[tu];have:(part qH (k*c) (min c (qH.length-k*c))).length<=min c (qH.length-k*c):=by unfold part;exact List.length_take_le _ _
 omega
theorem QK(M:ak)(c:Nat)(qH:ak){len:Nat}:∀pre:List (FrK c len),(LL M c qH pre).length<=M.length+pre.length*(c+8)
 |[]=>by simp[LL]
 |x::pre=>by have h1:=QK M c qH pre;have h2:=XP c qH x.1;simp only[LL,List.flatMap_cons,bK,dJ]at h1⊢;rw[lQ,nJ];omega
