import Derived.Test.YtlghjjennhpjeaaGreatDoorGhL
import Derived.Handed
import Derived.Test.YtlghjjennhpjeaaGreatDoorProg
namespace Go.Lf
open Go.Conc Go.ConcN
open Go.ConcR (KK WgAt stA smA rd wr mk Payload DC0 g_of_ofEvents)
section
variable {P:aP}{X:Nat->Prop}
end
end Go.Lf
namespace Go.Lf
open Go.Conc Go.ConcN
def zN(X:Nat->Prop)(D:Nat->ah->aN->Prop):Prop:=∀n w es,n<=w.heap.size->Ux X w es->D n w es
theorem zN.nil{X:Nat->Prop}{D:Nat->ah->aN->Prop}(h:zN X D){n:Nat}{w:ah}(hs:n<=w.heap.size):D n w #[]:=h _ _ _ hs λ_ he=>nU
inductive sU (P:aP) (D:Nat->ah->aN->Prop) (Stop:aI->ah->Prop):aI->ah->Prop
 |stop {g:aI} {w:ah}:(∀d,Stop g (w.at d))->sU P D Stop g w
 |step {g:aI} {w:ah} (n:Nat->aI) (u:Nat->ah) (es:Nat->aN):g.status=.running->(∀d,stepG P true g (w.at d)=.go (n d) (u d) (es d)/\D w.heap.size (u d) (es d))->(∀d,sU P D Stop (n d) (u d))->sU P D Stop g w
section
variable {P:aP}{F:aU->Bool}{X:Nat->Prop}{Y:Nat->aZ}{D:Nat->ah->aN->Prop}{Stop:aI->ah->Prop}
theorem sU.next{g:aI}{w:ah}(hs:g.status=.running)(h:∀d,∃g' w' es,stepG P true g (w.at d)=.go g' w' es/\D w.heap.size w' es/\sU P D Stop g' w'):sU P D Stop g w:=by
 refine .step (λd=>(h d).choose) (λd=>(h d).choose_spec.choose) (λd=>(h d).choose_spec.choose_spec.choose) hs (λd=>⟨?_,?_⟩) (λd=>?_)
 .exact(h d).choose_spec.choose_spec.choose_spec.1
 .exact(h d).choose_spec.choose_spec.choose_spec.2.1
 .exact(h d).choose_spec.choose_spec.choose_spec.2.2
def rG(X:Nat->Prop)(Y:Nat->aZ)(w v:ah):Prop:=∃τ d,yg X Y w {v with tape:=τ,drawn:=d}
theorem yg.t{w v:ah}(h:yg X Y w v):rG X Y w v:=⟨v.tape,v.drawn,h⟩
theorem rG.re{w v:ah}(h:rG X Y w v)(d d':Nat)(τ:Nat->Question->Nat)(hs:∀i q,w.tape (d+i) q=τ (d'+i) q):yg X Y (w.at d) {v with tape:=τ,drawn:=d'}:=by obtain⟨τ0,d0,h⟩:=h;exact⟨h.size,h.bound,h.same,h.gho,h.doc,h.nv,h.os,h.out,hs,h.unf⟩
theorem rG.to{w v:ah}(h:rG X Y w v)(τ:Nat->Question->Nat)(d:Nat):rG X Y w {v with tape:=τ,drawn:=d}:=by obtain⟨τ0,d0,h⟩:=h;exact⟨τ0,d0,h⟩
theorem rG.at{w v:ah}(h:rG X Y w v)(d:Nat):rG X Y (w.at d) v:=⟨λp=>w.tape (d+p),0,h.re d 0 _ λi q=>aA⟩
structure Sg where
 f:aS
 r:aT
 u:ah
 w:ah
variable (P F X Y D Stop)in
structure Rf(K:dh)(cs:aT)(fn:aU)(Q:Exit->Act->ah->Prop)(s:Sg):Prop where
 tf:Jq P F s.f
 mode:s.f.mode=.run\/s.f.mode=.returning
 stack:Stack P F s.r
 VW:rG X Y s.w s.u
 law:∀τ:Nat->Question->Nat,(∀p,p<s.u.drawn->τ p=s.u.tape p)->∃n a' v',Gs P n s.f (s.r++[f0]) {s.u with tape:=τ} ((base fn).at a' []) [f0] v'/\Q .normal a' v'
 no:¬sU P D Stop (agz K cs s.f s.r) s.w
variable (P)in
def CW(s s':Sg):Prop:=s.u.drawn<=s'.u.drawn/\(∀p,p<s.u.drawn->s'.u.tape p=s.u.tape p)/\
 ∀τ:Nat->Question->Nat,(∀p,s.u.drawn<=p->p<s'.u.drawn->τ p=s'.u.tape p)->∃es,stepG P true (G s.f (s.r++[f0])) {s.u with tape:=τ}=.go (G s'.f (s'.r++[f0])) {s'.u with tape:=τ} es
theorem adq{K:dh}{cs:aT}{fn:aU}{Q:Exit->Act->ah->Prop}(hK:∀a' v' w',Q .normal a' v'->rG X Y w' v'->sU P D Stop (G ((base fn).at a' K) cs) w'){s:Sg}(hi:Rf P F X Y D Stop K cs fn Q s){τ:Nat->Question->Nat}{a':Act}{v':ah}
  (h:Gs P 0 s.f (s.r++[f0]) {s.u with tape:=τ} ((base fn).at a' []) [f0] v') (hq:Q .normal a' v'):False:=by
 obtain⟨h1,h2,h3⟩:=zy h
 have hr:s.r=[]:=by exact axJ
 apply hi.no;have:agz K cs s.f s.r=G ((base fn).at a' K) cs:=avt;exact axM
theorem amm{f:aS}(hT:Jq P F f)(hm:f.mode=.run)(ht:f.todo=[])(cs:aT)(u:ah):stepG P true (G f cs) u=.go (G {f with mode:=.returning} cs) u #[]:=by obtain⟨fn,tmps,todo,defers,mode,kind,round⟩:=f;have hk:=hT.kind;have hd:=hT.defers;have hr:=hT.round;dsimp only at hk hd hr ht hm;subst hk hd hr ht hm;rfl
theorem Zm(hF:x9 P F)(hD:zN X D){K:dh}{cs:aT}{fn:aU}{Q:Exit->Act->ah->Prop}(hK:∀a' v' w',Q .normal a' v'->rG X Y w' v'->sU P D Stop (G ((base fn).at a' K) cs) w'){s:Sg}
  (hi:Rf P F X Y D Stop K cs fn Q s):∃s',Rf P F X Y D Stop K cs fn Q s'/\CW P s s':=by
 have uw:(agz K cs s.f s.r).status=.running:=by cases s.r<;>rfl
 obtain⟨d,hd⟩:∃d,∀g' w' es,stepG P true (agz K cs s.f s.r) (s.w.at d)=.go g' w' es->D s.w.heap.size w' es->¬sU P D Stop g' w':=by
  refine iw λPK=>hi.no (.next uw λd=>?_)
  exact axB
 let τ₁:Nat->Question->Nat:=λp q=>if p<s.u.drawn then s.u.tape p q else s.w.tape (d+(p-s.u.drawn)) q
 have hs:yg X Y (s.w.at d) {s.u with tape:=τ₁}:=hi.VW.re d s.u.drawn τ₁ λi q=>by
  show s.w.tape (d+i) q=if s.u.drawn+i<s.u.drawn then _ else _
  exact axx
 have hag:∀p,p<s.u.drawn->τ₁ p=s.u.tape p:=λp hp=>by
  funext q
  exact axH
 obtain⟨n,a',v',hn,hq⟩:=hi.law τ₁ hag;cases n with
 |zero=>exact(adq hK hi hn hq).elim
 |succ n=>
  have mk:∀(f':aS)(r':aT)(u₂ w₂:ah)(es:aN),Jq P F f'->(f'.mode=.run\/f'.mode=.returning)->Stack P F r'->yg X Y w₂ u₂->Tp P (G s.f (s.r++[f0])) {s.u with tape:=τ₁} (G f' (r'++[f0])) u₂ es->
    stepG P true (agz K cs s.f s.r) (s.w.at d)=.go (agz K cs f' r') w₂ es->s.w.heap.size<=w₂.heap.size->Ux X w₂ es->∃s',Rf P F X Y D Stop K cs fn Q s'/\CW P s s':=λf' r' u₂ w₂ es h1 h2 h3 h4 h5 h6 h8 h7=>by
   obtain⟨t1,t2,t3⟩:=h5;dsimp only at t1 t2 t3;refine⟨⟨f',r',u₂,w₂⟩,⟨h1,h2,h3,h4.t,λτ hτ=>?_,hd _ _ _ h6 (hD _ _ _ h8 h7)⟩,t2,λp hp=>avn,λτ hτ=>⟨es,t3 τ λp QI BJ=>avp⟩⟩;dsimp only at hτ;obtain⟨n,a',v',hn,hq⟩:=hi.law τ λp hp=>avr
   cases n with
   |zero=>exact(adq hK hi hn hq).elim
   |succ n=>exact⟨n,a',v',wY (t3 τ λp _ BJ=>avq) hn,hq⟩
  rcases hi.mode with hm|hm
  .by_cases VR:s.r=[]/\s.f.todo=[]
   .obtain⟨hr,ht⟩:=VR;rw[hr]at hn;have e:=amm hi.tf hm ht ([]++[f0]) {s.u with tape:=τ₁};have h2:=wY e hn;cases n with
    |zero=>
     obtain⟨h3,_⟩:=zy h2;have:=bI Frame.mode h3;cases this
    |succ n=>
     rcases QU (c:=f0) (r:=[]) (f:={s.f with mode:=.returning}) (F:=F) ⟨hi.tf.fn,hi.tf.kind,hi.tf.defers,hi.tf.round,hi.tf.todo⟩ rfl hs with⟨o,LY,rF,he⟩|⟨y,LY,rF,w',he,_⟩
     .exact(x_ he h2).elim
     .exact absurd (wY he h2) (Uy n _ _ v')
   .rcases anj (cs:=s.r++[f0]) hF hi.tf hm hs with⟨o,LY,rF,he⟩|⟨ch,LY,rF,he⟩|⟨g',LY,rF,w',he,htp,xk,hsz,hev,ah_⟩
    .exact axe
    .exact ayR
    .cases ah_ with
     |@here f' hg hT' Tf hB=>
      subst hg;refine mk f' s.r LY w' rF hT' Tf hi.stack xk htp ?_ hsz hev;cases hr:s.r with
      |nil=>exact hB K cs λht=>absurd ⟨hr,ht⟩ VR
      |cons c r=>
       have:=hB [] (ajd K cs (c::r)) (λ_=>rfl);rw[zA,zA]at this;exact this
     |@call e hg hTe hme hne hB=>
      subst hg;refine mk e (s.f::s.r) LY w' rF hTe (.inl hme) ⟨⟨hi.tf,hm,hne.1,P_ hi.tf hm hne⟩,hi.stack⟩ xk htp ?_ hsz hev;cases hr:s.r with
      |nil=>exact hB K cs
      |cons c r=>
       have:=hB [] (ajd K cs (c::r));rw[zA]at this;exact this
     |back _ _ hr _=>rw[hm]at hr;cases hr
  .cases hr:s.r with
   |nil=>
    rw[hr]at hn;rcases QU (c:=f0) (r:=[]) (F:=F) hi.tf hm hs with⟨o,LY,rF,he⟩|⟨y,LY,rF,w',he,_⟩
    .exact axe
    .exact absurd (wY he hn) (Uy n _ _ v')
   |cons c r=>
    have hS:=hi.stack;rw[hr]at hn hS mk;rcases QU (c:=c) (r:=r++[f0]) (F:=F) hi.tf hm hs with⟨o,LY,rF,he⟩|⟨y,LY,rF,w',he,htp,xk,hsz,hev,hB⟩
    .exact axe
    .obtain⟨hTc,hmc,C_⟩:=hS.1.2.2.2 y;refine mk (c.finish y) r LY w' rF hTc (.inl hmc) hS.2 xk htp ?_ hsz hev;cases r with
     |nil=>
      have:=hB (CZ K c) cs;rw[C_ K]at this;exact this
     |cons d r=>exact hB c (ajd K cs (d::r))
theorem ar7(hF:x9 P F)(hD:zN X D){c:Code}(hc:Hq P F c=true){Q:Exit->Act->ah->Prop}{a:Act}{v:ah}(h:∀τ d,c.wp P Q a {v with tape:=τ,drawn:=d})(hQ:∀e a' v',Q e a' v'->e=.normal/\a'.defers=[])(ha:a.defers=[])
  {fn:aU} (hf:∃GI,P.funcs[fn]?=some GI) {w:ah} (hs:rG X Y w v) {K:dh} {cs:aT} (hK:∀a' v' w',Q .normal a' v'->rG X Y w' v'->sU P D Stop (G ((base fn).at a' K) cs) w'):sU P D Stop (G ((base fn).at a (.code c::K)) cs) w:=by
 refine iw λPK=>?_
 have start:Rf P F X Y D Stop K cs fn Q ⟨(base fn).at a [.code c],[],{v with drawn:=0},w⟩:=by exact ayp
 let nx:{s//Rf P F X Y D Stop K cs fn Q s}->{s//Rf P F X Y D Stop K cs fn Q s}:=λs=>⟨(Zm hF hD hK s.2).choose,(Zm hF hD hK s.2).choose_spec.1⟩
 have nxs:∀s,CW P s.1 (nx s).1:=λs=>(Zm hF hD hK s.2).choose_spec.2
 let q:Nat->{s//Rf P F X Y D Stop K cs fn Q s}:=λn=>Nat.rec ⟨_,start⟩ (λ_ s=>nx s) n
 have qs:∀n,CW P (q n).1 (q (n+1)).1:=λn=>nxs (q n)
 have mono:∀n m,n<=m->(q n).1.u.drawn<=(q m).1.u.drawn/\∀p,p<(q n).1.u.drawn->(q m).1.u.tape p=(q n).1.u.tape p:=by
  intro n m VQ
  induction m with
  |zero=>
   obtain rfl:n=0:=ag;exact⟨ay _,λ_ _=>rfl⟩
  |succ m ih=>
   rcases bK n (m+1)with qB|NV
   .exact axI
   .exact axt
 have dec:∀p,Decidable (∃n,p<(q n).1.u.drawn):=λp=>Classical.propDecidable _
 let τ:Nat->Question->Nat:=λp=>if h:∃n,p<(q n).1.u.drawn then(q h.choose).1.u.tape p else λ_=>0
 have agree:∀n p,p<(q n).1.u.drawn->τ p=(q n).1.u.tape p:=λn p hp=>by
  have hex:∃n,p<(q n).1.u.drawn:=⟨n,hp⟩;show(if h:∃n,p<(q n).1.u.drawn then(q h.choose).1.u.tape p else λ_=>0)=_;rw[kG hex];have hc:=hex.choose_spec;rcases auM n hex.choose with hle|hle
  .exact(mono n _ hle).2 p hp
  .exact axv
 have never:∀(m i:Nat)(a':Act)(v':ah),Gs P m (q i).1.f ((q i).1.r++[f0]) {(q i).1.u with tape:=τ} ((base fn).at a' []) [f0] v'->Q .normal a' v'->False:=by
  intro m
  induction m with
  |zero=>exact λi a' v' h hq=>adq hK (q i).2 h hq
  |succ m ih=>
   intro i a' v' h hq;obtain⟨es,he⟩:=(qs i).2.2 τ λp _ hp=>agree (i+1) p hp
   exact ih (i+1) a' v' (wY he h) hq
 obtain⟨n,a',v',hn,hq⟩:=(q 0).2.law τ λp hp=>agree 0 p hp
 exact never n 0 a' v' hn hq
end
end Go.Lf
namespace Go.Lf
open Go.Conc Go.ConcN Go.Gh
open Go.ConcR (KK WgAt stA smA rd wr mk Payload DC0 g_of_ofEvents)
def EvM(Shun:Loc->Prop)(e:Event):Prop:=(∀x,(MemAct.ofEvent e).touch?=some x->Shun x.loc->x.kind≠.plain)/\e.loc≠.mark .disable/\e.loc≠.mark .enable
theorem U7(es:aN):∃B,∀e∈es,(MemAct.ofEvent e).low B:=by
 obtain⟨B,hB⟩:=FZ (MemOp.ofEvents 0 0 "" es);refine⟨B,λe he=>?_⟩
 have:({g:=0,fn:=0,pos:= "",act:=.ofEvent e}:MemOp)∈MemOp.ofEvents 0 0 "" es:=by rw[ofEvents_eq];exact Array.mem_map.2 ⟨e,he,rfl⟩
 exact hB _ this
section
variable {P:aP}{Shun:Loc->Prop}{D:Nat->ah->aN->Prop}{Stop:aI->ah->Prop}{Fin:Machine->Trace->Prop}
structure LU(P:aP)(Shun:Loc->Prop)(e:Nat)(gs:dD)(W:ah)(t:Trace)(q:Nat->Nat):Prop where
 size:gs.size=e+1
 old:Leavers P t gs q
 past:∃B,Past Shun B t
 late:JH Shun W.heap.size e t
theorem LU.at{e:Nat}{gs:dD}{W:ah}{t:Trace}{q:Nat->Nat}(h:LU P Shun e gs W t q)(d:Nat):LU P Shun e gs (W.at d) t q:=⟨h.size,h.old,h.past,h.late⟩
theorem JH.app0{sz sz' e:Nat}{t:Trace}{fn:aU}{pos:String}{es:aN}(h:JH Shun sz e t)(hs:sz<=sz')(hes:∀x∈es,EvM Shun x/\∀y,(MemAct.ofEvent x).touch?=some y->∀ad,y.loc=.cell ad->ad.block<sz'):JH Shun sz' e (t++MemOp.ofEvents 0 fn pos es):=by
 refine⟨h.quiet.app λop uZ x hx Z8=>?_,λop uZ=>?_,λop uZ x hx=>?_⟩
 .obtain⟨ev,he,rfl⟩:=Go.Conc.mem_ofEvents uZ;exact⟨(hes ev he).1.1 x hx Z8,λ_=>rfl⟩
 .rcases nN.1 uZ with h1|h1
  .exact h.gs op h1
  .obtain⟨ev,_,rfl⟩:=Go.Conc.mem_ofEvents h1;exact iH _
 .rcases nN.1 uZ with h1|h1
  .exact⟨λad e'=>bH ((h.low op h1 x hx).1 ad e') hs,(h.low op h1 x hx).2⟩
  .obtain⟨ev,he,rfl⟩:=Go.Conc.mem_ofEvents h1;exact⟨(hes ev he).2 x hx,λh0=>absurd rfl h0⟩
theorem JH.mute{sz e i:Nat}{t:Trace}{fn:aU}{pos:String}{es:aN}(h:JH Shun sz e t)(hi:i<=e)(hm:∀x∈es,Event.mute x=true):JH Shun sz e (t++MemOp.ofEvents i fn pos es):=by
 have none:∀op∈MemOp.ofEvents i fn pos es,op.act.touch?=none/\op.g=i:=λop uZ=>by obtain⟨ev,he,rfl⟩:=Go.Conc.mem_ofEvents uZ;exact⟨touch_mute (hm ev he),rfl⟩
 refine⟨h.quiet.app λop uZ x hx _=>(by rw[(none op uZ).1]at hx;cases hx),λop uZ=>?_,λop uZ x hx=>?_⟩
 .rcases nN.1 uZ with h1|h1
  .exact h.gs op h1
  .rw[(none op h1).2];exact hi
 .rcases nN.1 uZ with h1|h1
  .exact h.low op h1 x hx
  .rw[(none op h1).1]at hx;cases hx
def DM(Shun:Loc->Prop)(n:Nat)(w:ah)(es:aN):Prop:=n<=w.heap.size/\∀e∈es,EvM Shun e/\∀x,(MemAct.ofEvent e).touch?=some x->∀ad,x.loc=.cell ad->ad.block<w.heap.size
theorem U8{gs:dD}{a:aI}{w:ah}{sl:Option (Nat×Nat)}{t:Trace}{q:Nat->Nat}{e:Nat}(h0:gs[0]?=some a)(r_:a.status=.running)(hB:LU P Shun e gs w t q):
  ∃d sl',stepT P (crowd gs w sl)=runT P (crowd gs (w.at d) sl') 0\/
   ∃QG ops q',stepT P (crowd gs w sl)=(.next (crowd QG (w.at d) sl'),ops)/\QG[0]?=some a/\LU P Shun e QG w (t++ops) q'/\sumTo QG.size q'<sumTo gs.size q:=by
 obtain⟨hsz,hL,⟨B,hP⟩,hT⟩:=hB
 have haw:∀g∈gs,awake g:=λg hg=>by
  obtain⟨i,hi⟩:=pM.1 hg;cases i with
  |zero=>rw[h0]at hi;cases hi;exact awake_of (.inl r_)
  |succ i=>exact awake_of ((hL.old (i+1) g ag hi).status.elim .inl λx=>.inr (.inr x))
 obtain⟨i,g,d,sl',hi,hg,uw⟩:=crowd_pick (P:=P) (w:=w) (sl:=sl) haw ⟨0,a,h0,r_⟩;refine⟨d,sl',?_⟩;cases i with
 |zero=>exact .inl uw
 |succ i=>
  refine .inr ?_;have hq:=hL.old (i+1) g ag hi;have qB:i+1<gs.size:=(eG.1 hi).1;cases hqi:q (i+1)with
  |zero=>rw[hqi]at hq;rw[hq.1]at hg;cases hg
  |succ k=>
   rw[hqi]at hq;rcases hq with⟨hf,_⟩|⟨_,g',es,hm,asY,hq'⟩
   .rw[hf]at hg;cases hg
   have acB:=runT_crowd_go (P:=P) (sl:=sl') (i:=i+1) hi (by rw[show(i+1==0)=false from rfl];exact asY (w.at d));have others:∀j,j≠i+1->Deaf (t++MemOp.ofEvents (i+1) g.frame.fn g.frame.place es) j=Deaf t j:=λj hj=>Deaf_other t (g':=i+1) (λe=>hj e.symm) _ (λop uZ=>by obtain⟨e,_,rfl⟩:=Go.Conc.mem_ofEvents uZ;rfl)
   refine⟨_,_,upd q (i+1) k,uw.trans acB,?_,⟨by simpa using hsz,⟨λj x hj hx=>?_,λj hj=>?_⟩,⟨B,hP.mute ag hm⟩,JH.mute hT ag hm⟩,?_⟩
   .rw[kZ ag,pU,h0];simp[woken_run r_]
   .by_cases hji:j=i+1
    .subst hji;rw[Array.getElem?_setIfInBounds_self_of_lt (by simpa using qB)]at hx;cases hx;rw[upd_same,Deaf_own];exact hq'
    .rw[kZ (λe=>hji e.symm),pU]at hx;obtain⟨y,hy,rfl⟩:=dU.1 hx;have hqj:=hL.old j y hj hy;rw[woken_quitsD hqj,upd_ne q k hji,others j hji];exact hqj
   .have NZ:gs.size<=j:=iC;rw[others j ag];exact hL.above j NZ
   .have hsum:sumTo gs.size (upd q (i+1) k)+(k+1)=sumTo gs.size q+k:=by
     have:=sumTo_upd q k id qB;simpa[hqi]using this
    simp only[Array.size_setIfInBounds,Array.size_map];omega
theorem late(yP:∀m m' ops t,stepT P m=(.next m',ops)->Fin m' (t++ops)->Fin m t)(hD:∀n w es,D n w es->DM Shun n w es){e:Nat}
  (sQ:∀gs a w sl t q,gs[0]?=some a->(∀d,Stop a (w.at d))->LU P Shun e gs w t q->Fin (crowd gs w sl) t) {a:aI} {w:ah} (hG:sU P D Stop a w):
  ∀(d:Nat)(gs:dD)(sl:Option (Nat×Nat))(t:Trace)(q:Nat->Nat),gs[0]?=some a->LU P Shun e gs w t q->Fin (crowd gs (w.at d) sl) t:=by
 induction hG with
 |stop h=>exact λd gs sl t q h0 hB=>sQ gs _ _ sl t q h0 (λd'=>h d') ⟨hB.size,hB.old,hB.past,hB.late⟩
 |@step g w n u es r_ hs _ ih=>
  have own:∀(d:Nat)(gs:dD)(sl:Option (Nat×Nat))(t:Trace)(q:Nat->Nat)(m:Machine),gs[0]?=some g->LU P Shun e gs w t q->stepT P m=runT P (crowd gs (w.at d) sl) 0->Fin m t:=by
   rintro d gs sl t q m h0 ⟨hsz,hL,⟨B,hP⟩,hT⟩ h;obtain⟨h1,h2⟩:=hs d;have h2:=hD _ _ _ h2;have acB:=runT_crowd_go (P:=P) (sl:=sl) (i:=0) h0 (show stepG P (0==0) g (w.at d)=_ from h1);obtain⟨B',Nj⟩:=U7 (es d);have qB:0<gs.size:=(eG.1 h0).1;refine yP _ _ _ _ (h.trans acB) ?_
   have:=ih d (u d).drawn ((gs.map (woken P g (n d) (u d))).setIfInBounds 0 (n d)) sl (t++MemOp.ofEvents 0 g.frame.fn g.frame.place (es d)) q (by simp[qB])
    ⟨by simpa using hsz,⟨λj x hj hx=>by
     rw[kZ ag,pU]at hx;obtain⟨y,hy,rfl⟩:=dU.1 hx;have hq:=hL.old j y hj hy;rw[woken_quitsD hq,Deaf_other t (g':=0) ag _ (λop uZ=>by obtain⟨e,_,rfl⟩:=Go.Conc.mem_ofEvents uZ;rfl)];exact hq,λj hj=>by
     have NZ:gs.size<=j:=iC;rw[Deaf_other t (g':=0) ag _ (λop uZ=>by obtain⟨e,_,rfl⟩:=Go.Conc.mem_ofEvents uZ;rfl)];exact hL.above j NZ⟩,
    ⟨max B B',(hP.mono (oP B B')).own λx hx=>⟨(h2.2 x hx).1.1,(h2.2 x hx).1.2.1,(h2.2 x hx).1.2.2,MemAct.low_mono (oO B B') (Nj x hx)⟩⟩,JH.app0 hT h2.1 h2.2⟩
   exact this
  have key:∀(M d:Nat)(gs:dD)(sl:Option (Nat×Nat))(t:Trace)(q:Nat->Nat),sumTo gs.size q<=M->gs[0]?=some g->LU P Shun e gs w t q->Fin (crowd gs (w.at d) sl) t:=by
   intro M
   induction M with
   |zero=>
    intro d gs sl t q hM h0 hB;obtain⟨d',sl',h|⟨QG,ops,q',_,_,_,h⟩⟩:=U8 (w:=w.at d) (sl:=sl) h0 r_ (hB.at d)
    .exact own d' gs sl' t q _ h0 hB h
    .omega
   |succ M ihM=>
    intro d gs sl t q hM h0 hB;obtain⟨d',sl',h|⟨QG,ops,q',h1,h2,h3,h5⟩⟩:=U8 (w:=w.at d) (sl:=sl) h0 r_ (hB.at d)
    .exact own d' gs sl' t q _ h0 hB h
    .exact yP _ _ _ _ h1 (ihM d' QG sl' (t++ops) q' ag h2 ⟨h3.size,h3.old,h3.past,h3.late⟩)
  exact λd gs sl t q h0 hB=>key _ d gs sl t q (ay _) h0 hB
def Ok(P:aP)(Post:ai->ah->Prop)(m:Machine)(t:Trace):Prop:=
 ∃N last o w' t',runNT P (N+1) m t=(.ended o w',t')/\runN P N m=.next last/\step P last=.ended o w'/\Good P Post last o w' t'
theorem adi{Post:ai->ah->Prop}(m m':Machine)(ops:Array MemOp)(t:Trace)(h:stepT P m=(.next m',ops))(h':Ok P Post m' (t++ops)):Ok P Post m t:=by
 obtain⟨N,last,o,w',t',h1,h2,h3,h4⟩:=h';refine⟨N+1,last,o,w',t',by rw[runNT_succ_next h];exact h1,?_,h3,h4⟩;have:step P m=.next m':=by rw[step,h]
 rw[runN,this];exact h2
theorem aoP{Post:ai->ah->Prop}{gs:dD}{a:aI}{w:ah}{sl:Option (Nat×Nat)}{t:Trace}{q:Nat->Nat}(h0:gs[0]?=some a)(es:aN)(hes:∀e∈es,EvM Shun e)(r_:a.status=.running)
  (h:∀d,∃v,stepG P true a (w.at d)=.ended (.done v) (w.at d) es/\Post v (w.at d)) {e:Nat} (hB:LU P Shun e gs w t q):Ok P Post (crowd gs w sl) t:=by
 obtain⟨_,hL,⟨B,hP⟩,_⟩:=hB;obtain⟨B',Nj⟩:=U7 es;refine beside_ends (P:=P) (Shun:=Shun) (B:=max B B') (D:=λ_ _ _=>False) (n:=0) (λ_ _ _ x=>x.elim) h0 hL (hP.mono (oP _ _)) ?_;rintro w₁ ⟨d,rfl⟩;obtain⟨v,h1,h2⟩:=h d;exact⟨r_,v,es,h1,λe he=>⟨(hes e he).1,(hes e he).2.1,(hes e he).2.2,MemAct.low_mono (oO B B') (Nj e he)⟩,h2⟩
end
section
variable [Payload][qR][yV]
variable {P:aP}{ty:aG}{Wg C n B:Nat}{M:Nat->Prop}{WP:Nat->ai->ah->Prop}{K:aC->aI->ah->Prop}{N:Nat}{Fin:Machine->Trace->Prop}{t:Trace}
theorem adr[rJ](hb:PN Wg C n B M WP K)(Wh:N<2147483648)
  (hE:∀ids gs a W l sl t q,gs[0]?=some a->W.output=yV.o0->W.os=yV.os0->(∃st sm,WgAt ty Wg W st sm)->K ids a (gw W l)->PayAt C n W->(∀x∈ids,∃v l',Has C x v W/\WP x v (gw W l')/\∀b∈l',B<=b)->LU P (KZ Wg) N gs W t q->Fin (crowd gs W sl) t):∀μ m t,Iv P ty Wg C n B M WP K N μ m t->
  Fin m t\/(∃m' ops μ',stepT P m=(.next m',ops)/\Lt2 μ' μ/\Iv P ty Wg C n B M WP K N μ' m' (t++ops)):=by
 rintro μ m t h;obtain⟨gs,W,sl,j,D,ix,ow,tag,r,f0,d0,a,st,sm,l0,ids,rfl,ha,QM,sJ,wV,qV,DL,F_,IG,hN,rfl⟩:=h;have hpd:=QM.amn
 have go:(tag=.ret->∃m' gT,f0=m'+1/\(∀w₁,RL ty Wg W w₁->∃g' w' es,stepG P true a w₁=.go g' w' es/\DC0 w₁ w' es/\Goes P true (RL ty Wg) DC0 (aje gT) m' g' w')/\K ids gT (gw W l0)/\d0=0)->
   ∃m' ops μ',stepT P (crowd gs W sl)=(.next m',ops)/\Lt2 μ' (phi N (Vc j D) tag+Ssum j D,f0+2*Fsum j D)/\Iv P ty Wg C n B M WP K N μ' m' (t++ops):=by
  intro asZ;obtain⟨i,g,d,sl',hg,r_,qU⟩:=crowd_pick (P:=P) (w:=W) (sl:=sl) (ajf ha QM sJ) (agA ha QM sJ qV);rw[qU];have hl0:∀b∈l0,b∉([]:aC)/\b<W.heap.size/\b≠C/\b≠Wg:=λb A8=>⟨aA,(sJ.gm.Fa b A8).2,by have:=(sJ.gm.Fa b A8).1;have:=sJ.gm.hC;omega,by have:=(sJ.gm.Fa b A8).1;have:=sJ.gm.hW;omega⟩
  have Yx:Qk ty Wg C n [] (λ_=>False) W (W.at d):=Qk.at W d;have JI:=QM.rely hb.k Yx sJ.gm.hB aA hl0 (λ_=>False.elim);have acC:=sJ.at hb.wp d;have L9:WgAt ty Wg (W.at d) st sm:=wV;cases i with
  |zero=>
   rw[ha]at hg;cases hg;have giv:XL P ty Wg C n B M WP K N j r gs (W.at d) t D ix ow l0 ids d0 a st sm:=⟨hb,Wh,ha,acC,L9,F_,IG,hN⟩;by_cases hr:tag=.ret
   .obtain⟨m',gT,rfl,hs,hK,rfl⟩:=asZ hr;subst hr;have hr0:r=0:=by cases QM;rfl
    subst hr0;obtain⟨a',w',es,hgo,⟨rfl,rfl⟩,um⟩:=hs (W.at d) Yx.live;have hK':K ids gT (gw (W.at d) l0):=hb.k _ _ _ _ (Yx.ro sJ.gm.hB aA hl0 (λ_ _=>id)) hK;exact giv.idle (sl:=sl') (f0:=m'+1) hgo (.ret um hK') qV DL ag
   .rcases arC (sl:=sl') giv JI qV DL r_ with⟨h1,_⟩|h
    .exact absurd h1 hr
    .exact h
  |succ i=>
   have hi:i<j:=by have:=(eG.1 hg).1;rw[sJ.size]at this;omega
   rcases bK i rJ.el with he|he
   .exact ajg (sl:=sl') ha JI acC L9 qV DL F_ IG hN he hg r_
   .exact stepW (sl:=sl') hb Wh ha JI acC L9 qV DL F_ IG hN ag he hi hg r_
 by_cases hr:tag=.ret
 .subst hr;cases QM with
  |@ret m _ gT _ hG hK=>
   rcases Goes.cases hG with sQ|⟨m',rfl,hs⟩
   .obtain⟨_,rfl⟩:=sQ W (BO ty Wg W);obtain⟨hq,rfl,rfl⟩:=qV.fin_inv trivial;obtain⟨B₀,hB₀⟩:=FZ t
    have F9:∀x∈ids,∃v l',Has C x v W/\WP x v (gw W l')/\∀b∈l',B<=b:=by
     intro x hx;obtain⟨i,he,hi,rfl⟩:=IG x hx;obtain⟨g,hg,hs⟩:=sJ.wk i he hi;rw[hq i hi]at hs;cases hs with
     |lib _ _ h3 h4=>exact⟨_,_,h4 ag,h3,λb hb=>(sJ.gm.own i hi b hb).1⟩
    exact .inl (hE ids gs a W l0 sl t _ ha sJ.out sJ.os ⟨_,_,wV⟩ hK sJ.pay F9 ⟨by rw[sJ.size];omega,Zn sJ hq,⟨B₀,agB sJ (DL rfl) hB₀⟩,by have:=agC sJ;rwa[show j=N by omega]at this⟩)
   .exact .inr (go λ_=>⟨m',gT,rfl,hs,hK,rfl⟩)
 .exact .inr (go λh=>absurd h hr)
theorem ajh[rJ](yP:∀m m' ops t,stepT P m=(.next m',ops)->Fin m' (t++ops)->Fin m t)(hb:PN Wg C n B M WP K)(Wh:N<2147483648)
  (hE:∀ids gs a W l sl t q,gs[0]?=some a->W.output=yV.o0->W.os=yV.os0->(∃st sm,WgAt ty Wg W st sm)->K ids a (gw W l)->PayAt C n W->(∀x∈ids,∃v l',Has C x v W/\WP x v (gw W l')/\∀b∈l',B<=b)->LU P (KZ Wg) N gs W t q->Fin (crowd gs W sl) t):∀μ m t,Iv P ty Wg C n B M WP K N μ m t->Fin m t:=by
 intro μ;refine(Prod.lex Nat.lt_wfRel Nat.lt_wfRel).wf.induction (C:=λμ=>∀m t,Iv P ty Wg C n B M WP K N μ m t->Fin m t) μ λμ ih m t h=>?_
 rcases adr hb Wh hE μ m t h with h1|⟨m',ops,μ',h1,h2,h3⟩
 .exact h1
 .exact yP _ _ _ _ h1 (ih μ' h2 m' _ h3)
theorem aeR(yP:∀m m' ops t,stepT P m=(.next m',ops)->Fin m' (t++ops)->Fin m t){gs:dD}{a:aI}{W:ah}{sl:Option (Nat×Nat)}{q:Nat->Nat}{e:Nat}(h0:gs[0]?=some a)(hB:LU P (KZ Wg) e gs W t q)
  (hold:∀b,qR.old b->b<B/\b≠C) (hW:Wg<B) (hC:C<B) (hCW:C≠Wg) (hBs:B<=W.heap.size) (wV:WgAt ty Wg W 0 0) (apF:PayAt C n W) (hsp:Sp P ty Wg C n B M WP K N [] a (gw W []))
  (hb:PN Wg C n B M WP K) (Wh:e+N<2147483648) (ho:W.output=yV.o0) (hos:W.os=yV.os0)
  (hE:∀ids gs a W l sl t q,gs[0]?=some a->W.output=yV.o0->W.os=yV.os0->(∃st sm,WgAt ty Wg W st sm)->K ids a (gw W l)->PayAt C n W->(∀x∈ids,∃v l',Has C x v W/\WP x v (gw W l')/\∀b∈l',B<=b)->LU P (KZ Wg) (e+N) gs W t q->Fin (crowd gs W sl) t):Fin (crowd gs W sl) t:=by
 letI:rJ:=⟨e,t.size⟩;obtain⟨Bp,hP⟩:=hB.past;obtain⟨μ,hI⟩:=XM (sl:=sl) h0 hB.size hB.old hP hB.late rfl hold hW hC hCW hBs wV apF hsp ho hos;exact ajh yP hb Wh hE μ _ _ hI
omit [Payload][qR][yV]in
theorem ai6{a:aI}{W:ah}{Shun:Loc->Prop}(h0:∀op∈t,op.g=0)(hS:∀op∈t,∀x,op.act.touch?=some x->¬Shun x.loc)(vU:∀op∈t,∀x,op.act.touch?=some x->∀ad,x.loc=.cell ad->ad.block<W.heap.size)(hd:Deaf t 0=0):LU P Shun 0 #[a] W t (λ_=>0):=by
 refine⟨rfl,⟨λi g hi hg=>?_,λi hi=>?_⟩,?_,⟨λi op x hi hx hs=>absurd hs (hS op (fJ hi) x hx),λop uZ=>fA (h0 op uZ),λop uZ x hx=>⟨vU op uZ x hx,λh=>absurd (h0 op uZ) h⟩⟩⟩
 .have:=(eG.1 hg).1;simp at this;omega
 .exact Deaf_absent λa op ha e=>by have:=h0 op (fJ ha);simp at hi;omega
 .obtain⟨B₀,hB₀⟩:=FZ t;refine⟨B₀,λsaid=>?_,λi x hx _=>.inl ?_,λi g hg hne _=>?_,hd,hB₀⟩
  .have:=noRace_append (said:=said) (t:=#[]) (u:=t) (g:=0) (by rintro⟨i,j,_,⟨a,b,ha,_⟩,_⟩;simp[Trace.act?]at ha) h0 (λi a ha=>by simp[touchAt,Trace.act?]at ha);exact axb
  .obtain⟨op,ho,_⟩:=touch_of hx;have:=knows_own ho;rwa[h0 op (fJ ho)]at this
  .obtain⟨op,ho,rfl⟩:=dU.1 hg;exact absurd (h0 op (fJ ho)) hne
omit [Payload][qR][yV]in
theorem LU.more{Shun Shun':Loc->Prop}{gs:dD}{W:ah}{q:Nat->Nat}{e:Nat}(h:LU P Shun e gs W t q)(h1:∀l,Shun l->Shun' l)(h2:∀l,Shun' l->Shun l\/∃a:Addr,l=.cell a/\W.heap.size<=a.block):LU P Shun' e gs W t q:=by
 obtain⟨h3,h4,⟨B,hP⟩,hT⟩:=h;refine⟨h3,h4,⟨B,hP.clean,λi x hx hm=>(hP.known i x hx hm).imp id λy=>⟨h1 _ y.1,y.2⟩,hP.over,hP.hears,hP.seen⟩,⟨λi op x hi hx hs=>?_,hT.gs,hT.low⟩⟩;rcases h2 _ hs with h|⟨a,ha,hl⟩
 .exact hT.quiet i op x hi hx h
 .have:=(hT.low op (fJ hi) x hx).1 a ha;omega
omit [Payload][qR][yV]in
theorem amb{Post:ai->ah->Prop}{Shun:Loc->Prop}{gs:dD}{a:aI}{W:ah}{sl:Option (Nat×Nat)}{q:Nat->Nat}{e:Nat}(h0:gs[0]?=some a)(hB:LU P Shun e gs W t q)
  (hE:sU P (DM Shun) (λa w=>a.status=.running/\∃es,(∀e∈es,EvM Shun e)/\∀d,∃v,stepG P true a (w.at d)=.ended (.done v) (w.at d) es/\Post v (w.at d)) a W):Ok P Post (crowd gs W sl) t:=
 late (Fin:=Ok P Post) adi (λ_ _ _ h=>h) (λ_ _ w _ _ _ h0 uw hB=>let⟨r_,es,h1,h2⟩:=uw w.drawn;aoP h0 es h1 r_ h2 hB) hE W.drawn gs sl t q h0 hB
end
end Go.Lf
namespace Go.Lf
open Go.Conc
section
variable {P:aP}{F:aU->Bool}{X:Nat->Prop}{Y:Nat->aZ}{D:Nat->ah->aN->Prop}{Stop:aI->ah->Prop}{Φ:aI->ah->Prop}{f:aU}{k:dh}{cs:aT}
def uN(P:aP)(X:Nat->Prop)(Y:Nat->aZ)(D:Nat->ah->aN->Prop)(Stop:aI->ah->Prop)(f:aU)(cs:aT)(k:dh)(a:Act)(v:ah):Prop:=
 ∀w,rG X Y w v->sU P D Stop (G ((base f).at a k) cs) w
theorem abj(hF:x9 P F)(hD:zN X D){c:Code}(hc:Hq P F c=true){a:Act}{v:ah}(ha:a.defers=[])(hf:∃fn,P.funcs[f]?=some fn)(h:∀τ d,c.wp P (λe a' v'=>e=.normal/\a'.defers=[]/\uN P X Y D Stop f cs k a' v') a {v with tape:=τ,drawn:=d}):uN P X Y D Stop f cs (.code c::k) a v:=
 λ_ hs=>ar7 hF hD hc h (λ_ _ _ x=>⟨x.1,x.2.1⟩) ha hf hs λ_ _ w' hq xk=>hq.2.2 w' xk
theorem JJ(hD:zN X D){a:Act}{v:ah}{k k':dh}(h:∀w,stepG P true (G ((base f).at a k) cs) w=.go (G ((base f).at a k') cs) w #[])(hr:uN P X Y D Stop f cs k' a v):uN P X Y D Stop f cs k a v:=
 λw hs=>.next rfl λd=>⟨_,_,_,h (w.at d),hD.nil (ay _),hr _ (hs.at d)⟩
theorem Az(hD:zN X D){c d:Code}{a:Act}{v:ah}(ha:a.defers=[])(hr:uN P X Y D Stop f cs (.code c::.code d::k) a v):uN P X Y D Stop f cs (.code (.seq c d)::k) a v:=by refine JJ hD (λw=>?_) hr;obtain⟨t,d⟩:=a;subst ha;rfl
theorem ads(hF:x9 P F)(hD:zN X D){c d:Code}(hc:Hq P F c=true){a:Act}{v:ah}(ha:a.defers=[])(hf:∃fn,P.funcs[f]?=some fn)(h:∀τ d',c.wp P (λe a' v'=>e=.normal/\a'.defers=[]/\uN P X Y D Stop f cs (.code d::k) a' v') a {v with tape:=τ,drawn:=d'}):uN P X Y D Stop f cs (.code (.seq c d)::k) a v:=
 Az hD ha (abj hF hD hc ha hf h)
theorem rV(hF:x9 P F)(hD:zN X D){c d:Code}(hc:Hq P F c=true){a:Act}{v:ah}(ha:a.defers=[])(hf:∃fn,P.funcs[f]?=some fn)(h:∀R:Act->ah->Prop,(∀a' v',uN P X Y D Stop f cs (.code d::k) a' v'->R a' v')->∀τ d',c.wp P (λe a' v'=>e=.normal/\a'.defers=[]/\R a' v') a {v with tape:=τ,drawn:=d'}):uN P X Y D Stop f cs (.code (.seq c d)::k) a v:=
 ads hF hD hc ha hf (h _ λ_ _ x=>x)
theorem OA{w v:ah}{a:Addr}{u:ai}(h:yg X Y w v)(hc:v.cell? a=some u):w.cell? a=some u:=by obtain⟨h1,h2,_⟩:=h.af2 hc;rw[h.cell h1 h2];exact hc
end
section
variable {P:aP}{F:aU->Bool}{X:Nat->Prop}{Y:Nat->aZ}{D:Nat->ah->aN->Prop}{Stop:aI->ah->Prop}{Φ:aI->ah->Prop}{f:aU}{k:dh}{cs:aT}{a:Act}{v v':ah}{ops:Array Oper}{i:Nat}{rest:aC}{o:Oper}{u:ai}
theorem eval_func(a:Act)(g:aU):a.eval (.func g)=.func (.func g) #[] #[]:=rfl
theorem aoQ(hF:x9 P F)(L8:aoR P F o=true){x:Next}(r_:(execOp a.eval o).run P v=.ok x v'){w:ah}(hs:yg X Y w v)(fn:aU):
  ∃w',(execOp a.eval o).run P w=.ok x w'/\yg X Y w' v'/\w.heap.size<=w'.heap.size/\Ux X w' (listed P fn a o w):=by
 obtain⟨uD,_⟩:=Zo hF (tmps:=a.tmps) (ρ:=a.eval) (eval_func a) (λ_=>rfl) Gw.nil L8;obtain⟨w',h1,h2,h3,h4⟩:=uD.VW w v #[] x v' ((execOp a.eval o).events P v #[]) hs (by rw[Sem.runT_eq,r_]);rw[Sem.runT_eq,oI]at h1;refine⟨w',h1.1,h2,by rw[hs.size,h2.size];exact h3,λe he=>?_⟩;unfold listed at he;rw[h1.2]at he;exact(h4 e (mem_seen he)).resolve_left aA
theorem Fj{id:Nat}(hD:zN X D)(hr:uN P X Y D Stop f cs (.inRegion ops (List.range ops.size)::k) a v):uN P X Y D Stop f cs (.code (.region id ops false)::k) a v:=JJ hD (λ_=>dW) hr
theorem aaG(hD:zN X D)(hr:uN P X Y D Stop f cs k a v):uN P X Y D Stop f cs (.inRegion ops []::k) a v:=JJ hD (λ_=>bg) hr
theorem amo(hF:x9 P F)(hD:zN X D)(ho:ops[i]?=some o)(hw:Region.wanted o (yielded ops a.tmps)=true)(L8:aoR P F o=true)(r_:∀τ d,∃v',(execOp a.eval o).run P {v with tape:=τ,drawn:=d}=.ok (.value u) v'/\uN P X Y D Stop f cs (.inRegion ops rest::k) (a.put o.dst u) v'):uN P X Y D Stop f cs (.inRegion ops (i::rest)::k) a v:=by
 intro w hs;refine .next rfl λd=>?_
 obtain⟨v',h0,h⟩:=r_ (λp=>w.tape (d+p)) 0;obtain⟨w',h1,h2,h3,h4⟩:=aoQ hF L8 h0 (hs.re d 0 (λp=>w.tape (d+p)) λi q=>aA) f;exact⟨_,_,_,stepG_value (b:=base f) ho hw oh h1,hD _ _ _ h3 h4,h w' h2.t⟩
theorem aaH(hD:zN X D)(ha:a.defers=[]){fn:Func}(hf:P.funcs[f]?=some fn){c:aS}{y:ai}(F9:∀τ d,(results fn a.tmps).run P {v with tape:=τ,drawn:=d}=.ok y {v with tape:=τ,drawn:=d})
  (h:∀w,rG X Y w v->sU P D Stop (G (c.finish y) cs) w):uN P X Y D Stop f (c::cs) [.code .ret] a v:=by
 obtain⟨tmps,d0⟩:=a;subst ha;intro w hs;refine .next rfl λd=>⟨G {(base f).at ⟨tmps,[]⟩ [.code .ret]with mode:=.returning} (c::cs),w.at d,#[],rfl,hD.nil (ay _),?_⟩
 refine .next rfl λd'=>?_
 have xk:yg X Y (w.at d') {v with tape:=λp=>w.tape (d'+p),drawn:=0}:=hs.re d' 0 _ λi q=>aA
 have hr:=F9 (λp=>w.tape (d'+p)) 0;obtain⟨w',h1,h2,h3,h4⟩:=vP (results fn tmps) (w.at d') _ #[] y _ ((results fn tmps).events P {v with tape:=λp=>w.tape (d'+p),drawn:=0} #[]) (wM fn tmps) xk aup;refine⟨G (c.finish y) cs,w',seen P f ((results fn tmps).events P {v with tape:=λp=>w.tape (d'+p),drawn:=0} #[]),?_,hD _ w' _ (fA (xk.size.trans h2.size.symm)) (λe he=>(h4 e (mem_seen he)).resolve_left aA),h w' ⟨_,_,h2⟩⟩
 have eA:∀c2 r2 u,stepG P true (G {(base f).at ⟨tmps,[]⟩ [.code .ret]with mode:=.returning} (c2::r2)) u=
   GStep.after (seen P f ((results fn tmps).runT P u #[]).2) (match((results fn tmps).runT P u #[]).1 with
    | .ok v w=>doReturn P true {(base f).at ⟨tmps,[]⟩ [.code .ret]with mode:=.returning} (c2::r2) none v w
    | .halt (.stuck s) w=>.ended (.stuck s (Frame.pos P {(base f).at ⟨tmps,[]⟩ [.code .ret]with mode:=.returning})) w
    | .halt _ w=>.ended (.stuck "return: the result variables cannot be read" (Frame.pos P {(base f).at ⟨tmps,[]⟩ [.code .ret]with mode:=.returning})) w):=λc2 r2 u=>by
  simp only[G,stepG,unwind,base,Frame.at,hf];rfl
 exact ayM
end
end Go.Lf
namespace Go.Proofs.Y
open Go.Lf
def aaP:List aU:=[83,116,138,7,18,64,62,32,16,39,40,65,36,63,38,87,117,74,75,93,76,96,95,110,124,137,94,123]
def aoS(f:aU):Bool:=aaP.contains f
noncomputable def ae5(f:aU):Bool:=match Tryz.prog.funcs[f]? with
 |none=>false
 |some fn=>!(fn.name== "runtime.NumGoroutine")&&match fn.body with
  |none=>false
  |some c=>Hq Tryz.prog aoS c
theorem aqI:aaP.all ae5=true:=ak
theorem IP:x9 Tryz.prog aoS:=by
 intro f hf;have h:=jB.1 aqI f (by simpa[aoS]using hf);unfold ae5 at h;split at h
 .cases h
 .rename_i fn NY;rw[fU]at h;obtain⟨h1,h2⟩:=h;split at h2
  .cases h2
  .rename_i c hc;exact .inl ⟨fn,c,[],NY,iD,hc,h2,λx hx=>by simp at hx⟩
