import Derived.Test.YtnbflnamlpodcaaGreatDoorLfF
import Derived.Test.YtnbflnamlpodcaaGreatDoorGhL
namespace Go.Lf
open Go.Conc Go.ConcN
open Go.ConcR (KK WgAt stA smA rd wr mk Payload DC0 g_of_ofEvents)
section
variable {P:Program}{X:Nat->Prop}
end
end Go.Lf
namespace Go.Lf
open Go.Conc Go.ConcN
def vw(X:Nat->Prop)(D:Nat->World->Array Event->Prop):Prop:=∀n w es,n<=w.heap.size->NW X w es->D n w es
theorem vw.nil{X:Nat->Prop}{D:Nat->World->Array Event->Prop}(h:vw X D){n:Nat}{w:World}(hs:n<=w.heap.size):D n w #[]:=h _ _ _ hs λ_ he=>mW
theorem vw.to{X:Nat->Prop}{D:Nat->World->Array Event->Prop}(h:vw X D){n:Nat}{w w':World}{es:Array Event}(hs:w.heap.size=w'.heap.size)(hn:n<=w.heap.size)(he:NW X w es):D n w' es:=h _ _ _ (hs▸hn) λe hm=>(he e hm).grow (dX hs)
inductive rV (P:Program) (D:Nat->World->Array Event->Prop) (Stop:Goroutine->World->Prop):Goroutine->World->Prop
 |stop {g:Goroutine} {w:World}:(∀d,Stop g (w.at d))->rV P D Stop g w
 |step {g:Goroutine} {w:World} (n:Nat->Goroutine) (u:Nat->World) (es:Nat->Array Event):g.status=.running->(∀d,stepG P true g (w.at d)=.go (n d) (u d) (es d)/\D w.heap.size (u d) (es d))->(∀d,rV P D Stop (n d) (u d))->rV P D Stop g w
section
variable {P:Program}{F:FuncId->Bool}{X:Nat->Prop}{Y:Nat->Option Obj}{D:Nat->World->Array Event->Prop}{Stop:Goroutine->World->Prop}
theorem rV.next{g:Goroutine}{w:World}(hs:g.status=.running)(h:∀d,∃g' w' es,stepG P true g (w.at d)=.go g' w' es/\D w.heap.size w' es/\rV P D Stop g' w'):rV P D Stop g w:=by
 refine .step (λd=>(h d).choose) (λd=>(h d).choose_spec.choose) (λd=>(h d).choose_spec.choose_spec.choose) hs (λd=>⟨?_,?_⟩) (λd=>?_)
 .exact(h d).choose_spec.choose_spec.choose_spec.1
 .exact(h d).choose_spec.choose_spec.choose_spec.2.1
 .exact(h d).choose_spec.choose_spec.choose_spec.2.2
def qL(X:Nat->Prop)(Y:Nat->Option Obj)(w v:World):Prop:=∃τ d,xE X Y w {v with tape:=τ,drawn:=d}
theorem xE.t{w v:World}(h:xE X Y w v):qL X Y w v:=⟨v.tape,v.drawn,h⟩
theorem qL.re{w v:World}(h:qL X Y w v)(d d':Nat)(τ:Nat->Question->Nat)(hs:∀i q,w.tape (d+i) q=τ (d'+i) q):xE X Y (w.at d) {v with tape:=τ,drawn:=d'}:=by obtain⟨τ0,d0,h⟩:=h;exact⟨h.size,h.bound,h.same,h.gho,h.doc,h.nv,h.os,h.out,hs,h.unf⟩
theorem qL.to{w v:World}(h:qL X Y w v)(τ:Nat->Question->Nat)(d:Nat):qL X Y w {v with tape:=τ,drawn:=d}:=by obtain⟨τ0,d0,h⟩:=h;exact⟨τ0,d0,h⟩
theorem qL.at{w v:World}(h:qL X Y w v)(d:Nat):qL X Y (w.at d) v:=⟨λp=>w.tape (d+p),0,h.re d 0 _ λi q=>ai⟩
structure Sg where
 f:Frame
 r:List Frame
 u:World
 w:World
variable (P F X Y D Stop)in
structure Rl(K:List Item)(cs:List Frame)(fn:FuncId)(Q:Exit->Act->World->Prop)(s:Sg):Prop where
 tf:I9 P F s.f
 mode:s.f.mode=.run\/s.f.mode=.returning
 stack:Stack P F s.r
 VQ:qL X Y s.w s.u
 law:∀τ:Nat->Question->Nat,(∀p,p<s.u.drawn->τ p=s.u.tape p)->∃n a' v',F7 P n s.f (s.r++[f0]) {s.u with tape:=τ} ((base fn).at a' []) [f0] v'/\Q .normal a' v'
 no:¬rV P D Stop (agE K cs s.f s.r) s.w
variable (P)in
def CZ(s s':Sg):Prop:=s.u.drawn<=s'.u.drawn/\(∀p,p<s.u.drawn->s'.u.tape p=s.u.tape p)/\
 ∀τ:Nat->Question->Nat,(∀p,s.u.drawn<=p->p<s'.u.drawn->τ p=s'.u.tape p)->∃es,stepG P true (G s.f (s.r++[f0])) {s.u with tape:=τ}=.go (G s'.f (s'.r++[f0])) {s'.u with tape:=τ} es
theorem adS{K:List Item}{cs:List Frame}{fn:FuncId}{Q:Exit->Act->World->Prop}(hK:∀a' v' w',Q .normal a' v'->qL X Y w' v'->rV P D Stop (G ((base fn).at a' K) cs) w'){s:Sg}(hi:Rl P F X Y D Stop K cs fn Q s){τ:Nat->Question->Nat}{a':Act}{v':World}
  (h:F7 P 0 s.f (s.r++[f0]) {s.u with tape:=τ} ((base fn).at a' []) [f0] v') (hq:Q .normal a' v'):False:=by
 obtain⟨h1,h2,h3⟩:=zg h
 have hr:s.r=[]:=by exact awX
 apply hi.no;have:agE K cs s.f s.r=G ((base fn).at a' K) cs:=auV;exact axW
theorem amr{f:Frame}(hT:I9 P F f)(hm:f.mode=.run)(ht:f.todo=[])(cs:List Frame)(u:World):stepG P true (G f cs) u=.go (G {f with mode:=.returning} cs) u #[]:=by obtain⟨fn,tmps,todo,defers,mode,kind,round⟩:=f;have hk:=hT.kind;have hd:=hT.defers;have hr:=hT.round;dsimp only at hk hd hr ht hm;subst hk hd hr ht hm;rfl
theorem Zz(hF:xB P F)(hD:vw X D){K:List Item}{cs:List Frame}{fn:FuncId}{Q:Exit->Act->World->Prop}(hK:∀a' v' w',Q .normal a' v'->qL X Y w' v'->rV P D Stop (G ((base fn).at a' K) cs) w'){s:Sg}
  (hi:Rl P F X Y D Stop K cs fn Q s):∃s',Rl P F X Y D Stop K cs fn Q s'/\CZ P s s':=by
 have uw:(agE K cs s.f s.r).status=.running:=by cases s.r<;>rfl
 obtain⟨d,hd⟩:∃d,∀g' w' es,stepG P true (agE K cs s.f s.r) (s.w.at d)=.go g' w' es->D s.w.heap.size w' es->¬rV P D Stop g' w':=by
  refine ja λO4=>hi.no (.next uw λd=>?_)
  exact aw_
 let τ₁:Nat->Question->Nat:=λp q=>if p<s.u.drawn then s.u.tape p q else s.w.tape (d+(p-s.u.drawn)) q
 have hs:xE X Y (s.w.at d) {s.u with tape:=τ₁}:=hi.VQ.re d s.u.drawn τ₁ λi q=>by
  show s.w.tape (d+i) q=if s.u.drawn+i<s.u.drawn then _ else _
  exact aw2
 have hag:∀p,p<s.u.drawn->τ₁ p=s.u.tape p:=λp hp=>by
  funext q
  exact awY
 obtain⟨n,a',v',hn,hq⟩:=hi.law τ₁ hag;cases n with
 |zero=>exact(adS hK hi hn hq).elim
 |succ n=>
  have mk:∀(f':Frame)(r':List Frame)(u₂ w₂:World)(es:Array Event),I9 P F f'->(f'.mode=.run\/f'.mode=.returning)->Stack P F r'->xE X Y w₂ u₂->Tp P (G s.f (s.r++[f0])) {s.u with tape:=τ₁} (G f' (r'++[f0])) u₂ es->
    stepG P true (agE K cs s.f s.r) (s.w.at d)=.go (agE K cs f' r') w₂ es->s.w.heap.size<=w₂.heap.size->NW X w₂ es->∃s',Rl P F X Y D Stop K cs fn Q s'/\CZ P s s':=λf' r' u₂ w₂ es h1 h2 h3 h4 h5 h6 h8 h7=>by
   obtain⟨t1,t2,t3⟩:=h5;dsimp only at t1 t2 t3;refine⟨⟨f',r',u₂,w₂⟩,⟨h1,h2,h3,h4.t,λτ hτ=>?_,hd _ _ _ h6 (hD _ _ _ h8 h7)⟩,t2,λp hp=>auM,λτ hτ=>⟨es,t3 τ λp EJ CJ=>auR⟩⟩;dsimp only at hτ;obtain⟨n,a',v',hn,hq⟩:=hi.law τ λp hp=>auT
   cases n with
   |zero=>exact(adS hK hi hn hq).elim
   |succ n=>exact⟨n,a',v',wV (t3 τ λp _ CJ=>auS) hn,hq⟩
  rcases hi.mode with hm|hm
  .by_cases VJ:s.r=[]/\s.f.todo=[]
   .obtain⟨hr,ht⟩:=VJ;rw[hr]at hn;have e:=amr hi.tf hm ht ([]++[f0]) {s.u with tape:=τ₁};have h2:=wV e hn;cases n with
    |zero=>
     obtain⟨h3,_⟩:=zg h2;have:=aP Frame.mode h3;cases this
    |succ n=>
     rcases QL (c:=f0) (r:=[]) (f:={s.f with mode:=.returning}) (F:=F) ⟨hi.tf.fn,hi.tf.kind,hi.tf.defers,hi.tf.round,hi.tf.todo⟩ rfl hs with⟨o,KQ,rJ,he⟩|⟨y,KQ,rJ,w',he,_⟩
     .exact(xX he h2).elim
     .exact absurd (wV he h2) (Ul n _ _ v')
   .rcases amX (cs:=s.r++[f0]) hF hi.tf hm hs with⟨o,KQ,rJ,he⟩|⟨ch,KQ,rJ,he⟩|⟨g',KQ,rJ,w',he,htp,xn,hsz,hev,ahW⟩
    .exact awy
    .exact ayd
    .cases ahW with
     |@here f' hg ZV VB hB=>
      subst hg;refine mk f' s.r KQ w' rJ ZV VB hi.stack xn htp ?_ hsz hev;cases hr:s.r with
      |nil=>exact hB K cs λht=>absurd ⟨hr,ht⟩ VJ
      |cons c r=>
       have:=hB [] (ajK K cs (c::r)) (λ_=>rfl);rw[zh,zh]at this;exact this
     |@call e hg hTe hme hne hB=>
      subst hg;refine mk e (s.f::s.r) KQ w' rJ hTe (.inl hme) ⟨⟨hi.tf,hm,hne.1,PR hi.tf hm hne⟩,hi.stack⟩ xn htp ?_ hsz hev;cases hr:s.r with
      |nil=>exact hB K cs
      |cons c r=>
       have:=hB [] (ajK K cs (c::r));rw[zh]at this;exact this
     |back _ _ hr _=>rw[hm]at hr;cases hr
  .cases hr:s.r with
   |nil=>
    rw[hr]at hn;rcases QL (c:=f0) (r:=[]) (F:=F) hi.tf hm hs with⟨o,KQ,rJ,he⟩|⟨y,KQ,rJ,w',he,_⟩
    .exact awy
    .exact absurd (wV he hn) (Ul n _ _ v')
   |cons c r=>
    have hS:=hi.stack;rw[hr]at hn hS mk;rcases QL (c:=c) (r:=r++[f0]) (F:=F) hi.tf hm hs with⟨o,KQ,rJ,he⟩|⟨y,KQ,rJ,w',he,htp,xn,hsz,hev,hB⟩
    .exact awy
    .obtain⟨hTc,hmc,Ez⟩:=hS.1.2.2.2 y;refine mk (c.finish y) r KQ w' rJ hTc (.inl hmc) hS.2 xn htp ?_ hsz hev;cases r with
     |nil=>
      have:=hB (Dj K c) cs;rw[Ez K]at this;exact this
     |cons d r=>exact hB c (ajK K cs (d::r))
theorem ar6(hF:xB P F)(hD:vw X D){c:Code}(hc:GR P F c=true){Q:Exit->Act->World->Prop}{a:Act}{v:World}(h:∀τ d,c.wp P Q a {v with tape:=τ,drawn:=d})(hQ:∀e a' v',Q e a' v'->e=.normal/\a'.defers=[])(ha:a.defers=[])
  {fn:FuncId} (hf:∃Gu,P.funcs[fn]?=some Gu) {w:World} (hs:qL X Y w v) {K:List Item} {cs:List Frame} (hK:∀a' v' w',Q .normal a' v'->qL X Y w' v'->rV P D Stop (G ((base fn).at a' K) cs) w'):rV P D Stop (G ((base fn).at a (.code c::K)) cs) w:=by
 refine ja λO4=>?_
 have start:Rl P F X Y D Stop K cs fn Q ⟨(base fn).at a [.code c],[],{v with drawn:=0},w⟩:=by exact axk
 let nx:{s//Rl P F X Y D Stop K cs fn Q s}->{s//Rl P F X Y D Stop K cs fn Q s}:=λs=>⟨(Zz hF hD hK s.2).choose,(Zz hF hD hK s.2).choose_spec.1⟩
 have nxs:∀s,CZ P s.1 (nx s).1:=λs=>(Zz hF hD hK s.2).choose_spec.2
 let q:Nat->{s//Rl P F X Y D Stop K cs fn Q s}:=λn=>Nat.rec ⟨_,start⟩ (λ_ s=>nx s) n
 have qs:∀n,CZ P (q n).1 (q (n+1)).1:=λn=>nxs (q n)
 have mono:∀n m,n<=m->(q n).1.u.drawn<=(q m).1.u.drawn/\∀p,p<(q n).1.u.drawn->(q m).1.u.tape p=(q n).1.u.tape p:=by
  intro n m Yt
  induction m with
  |zero=>
   obtain rfl:n=0:=ae;exact⟨ak _,λ_ _=>rfl⟩
  |succ m ih=>
   rcases aQ n (m+1)with qE|VF
   .exact awZ
   .exact aw5
 have dec:∀p,Decidable (∃n,p<(q n).1.u.drawn):=λp=>Classical.propDecidable _
 let τ:Nat->Question->Nat:=λp=>if h:∃n,p<(q n).1.u.drawn then(q h.choose).1.u.tape p else λ_=>0
 have agree:∀n p,p<(q n).1.u.drawn->τ p=(q n).1.u.tape p:=λn p hp=>by
  have hex:∃n,p<(q n).1.u.drawn:=⟨n,hp⟩;show(if h:∃n,p<(q n).1.u.drawn then(q h.choose).1.u.tape p else λ_=>0)=_;rw[j_ hex];have hc:=hex.choose_spec;rcases at1 n hex.choose with hle|hle
  .exact(mono n _ hle).2 p hp
  .exact aw9
 have never:∀(m i:Nat)(a':Act)(v':World),F7 P m (q i).1.f ((q i).1.r++[f0]) {(q i).1.u with tape:=τ} ((base fn).at a' []) [f0] v'->Q .normal a' v'->False:=by
  intro m
  induction m with
  |zero=>exact λi a' v' h hq=>adS hK (q i).2 h hq
  |succ m ih=>
   intro i a' v' h hq;obtain⟨es,he⟩:=(qs i).2.2 τ λp _ hp=>agree (i+1) p hp
   exact ih (i+1) a' v' (wV he h) hq
 obtain⟨n,a',v',hn,hq⟩:=(q 0).2.law τ λp hp=>agree 0 p hp
 exact never n 0 a' v' hn hq
end
end Go.Lf
namespace Go.Lf
open Go.Conc Go.ConcN Go.Gh
open Go.ConcR (KK WgAt stA smA rd wr mk Payload DC0 g_of_ofEvents)
def EvM(Shun:Loc->Prop)(e:Event):Prop:=(∀x,(MemAct.ofEvent e).touch?=some x->Shun x.loc->x.kind≠.plain)/\e.loc≠.mark .disable/\e.loc≠.mark .enable
theorem Vb(es:Array Event):∃B,∀e∈es,(MemAct.ofEvent e).low B:=by
 obtain⟨B,hB⟩:=FI (MemOp.ofEvents 0 0 "" es);refine⟨B,λe he=>?_⟩
 have:({g:=0,fn:=0,pos:= "",act:=.ofEvent e}:MemOp)∈MemOp.ofEvents 0 0 "" es:=by rw[ofEvents_eq];exact Array.mem_map.2 ⟨e,he,rfl⟩
 exact hB _ this
section
variable {P:Program}{Shun:Loc->Prop}{D:Nat->World->Array Event->Prop}{Stop:Goroutine->World->Prop}{Fin:Machine->Trace->Prop}
structure IE(P:Program)(Shun:Loc->Prop)(e:Nat)(gs:Array Goroutine)(W:World)(t:Trace)(q:Nat->Nat):Prop where
 size:gs.size=e+1
 old:Leavers P t gs q
 past:∃B,Past Shun B t
 late:Jq Shun W.heap.size e t
theorem IE.at{e:Nat}{gs:Array Goroutine}{W:World}{t:Trace}{q:Nat->Nat}(h:IE P Shun e gs W t q)(d:Nat):IE P Shun e gs (W.at d) t q:=⟨h.size,h.old,h.past,h.late⟩
theorem Jq.app0{sz sz' e:Nat}{t:Trace}{fn:FuncId}{pos:String}{es:Array Event}(h:Jq Shun sz e t)(hs:sz<=sz')(Xa:∀x∈es,EvM Shun x/\∀y,(MemAct.ofEvent x).touch?=some y->∀ad,y.loc=.cell ad->ad.block<sz'):Jq Shun sz' e (t++MemOp.ofEvents 0 fn pos es):=by
 refine⟨h.quiet.app λop uJ x hx hsh=>?_,λop uJ=>?_,λop uJ x hx=>?_⟩
 .obtain⟨ev,he,rfl⟩:=Go.Conc.mem_ofEvents uJ;exact⟨(Xa ev he).1.1 x hx hsh,λ_=>rfl⟩
 .rcases mO.1 uJ with h1|h1
  .exact h.gs op h1
  .obtain⟨ev,_,rfl⟩:=Go.Conc.mem_ofEvents h1;exact fC _
 .rcases mO.1 uJ with h1|h1
  .exact⟨λad e'=>aK ((h.low op h1 x hx).1 ad e') hs,(h.low op h1 x hx).2⟩
  .obtain⟨ev,he,rfl⟩:=Go.Conc.mem_ofEvents h1;exact⟨(Xa ev he).2 x hx,λh0=>absurd rfl h0⟩
theorem Jq.mute{sz e i:Nat}{t:Trace}{fn:FuncId}{pos:String}{es:Array Event}(h:Jq Shun sz e t)(hi:i<=e)(hm:∀x∈es,Event.mute x=true):Jq Shun sz e (t++MemOp.ofEvents i fn pos es):=by
 have none:∀op∈MemOp.ofEvents i fn pos es,op.act.touch?=none/\op.g=i:=λop uJ=>by obtain⟨ev,he,rfl⟩:=Go.Conc.mem_ofEvents uJ;exact⟨touch_mute (hm ev he),rfl⟩
 refine⟨h.quiet.app λop uJ x hx _=>(by rw[(none op uJ).1]at hx;cases hx),λop uJ=>?_,λop uJ x hx=>?_⟩
 .rcases mO.1 uJ with h1|h1
  .exact h.gs op h1
  .rw[(none op h1).2];exact hi
 .rcases mO.1 uJ with h1|h1
  .exact h.low op h1 x hx
  .rw[(none op h1).1]at hx;cases hx
def DM(Shun:Loc->Prop)(n:Nat)(w:World)(es:Array Event):Prop:=n<=w.heap.size/\∀e∈es,EvM Shun e/\∀x,(MemAct.ofEvent e).touch?=some x->∀ad,x.loc=.cell ad->ad.block<w.heap.size
theorem Vd{gs:Array Goroutine}{a:Goroutine}{w:World}{sl:Option (Nat×Nat)}{t:Trace}{q:Nat->Nat}{e:Nat}(h0:gs[0]?=some a)(sJ:a.status=.running)(hB:IE P Shun e gs w t q):
  ∃d sl',stepT P (crowd gs w sl)=runT P (crowd gs (w.at d) sl') 0\/
   ∃Nl ops q',stepT P (crowd gs w sl)=(.next (crowd Nl (w.at d) sl'),ops)/\Nl[0]?=some a/\IE P Shun e Nl w (t++ops) q'/\sumTo Nl.size q'<sumTo gs.size q:=by
 obtain⟨hsz,hL,⟨B,hP⟩,hT⟩:=hB
 have haw:∀g∈gs,awake g:=λg hg=>by
  obtain⟨i,hi⟩:=ou.1 hg;cases i with
  |zero=>rw[h0]at hi;cases hi;exact awake_of (.inl sJ)
  |succ i=>exact awake_of ((hL.old (i+1) g ae hi).status.elim .inl λx=>.inr (.inr x))
 obtain⟨i,g,d,sl',hi,hg,uw⟩:=crowd_pick (P:=P) (w:=w) (sl:=sl) haw ⟨0,a,h0,sJ⟩;refine⟨d,sl',?_⟩;cases i with
 |zero=>exact .inl uw
 |succ i=>
  refine .inr ?_;have hq:=hL.old (i+1) g ae hi;have qE:i+1<gs.size:=(bf.1 hi).1;cases hqi:q (i+1)with
  |zero=>rw[hqi]at hq;rw[hq.1]at hg;cases hg
  |succ k=>
   rw[hqi]at hq;rcases hq with⟨hf,_⟩|⟨_,g',es,hm,asW,hq'⟩
   .rw[hf]at hg;cases hg
   have acw:=runT_crowd_go (P:=P) (sl:=sl') (i:=i+1) hi (by rw[show(i+1==0)=false from rfl];exact asW (w.at d));have others:∀j,j≠i+1->Deaf (t++MemOp.ofEvents (i+1) g.frame.fn g.frame.place es) j=Deaf t j:=λj hj=>Deaf_other t (g':=i+1) (λe=>hj e.symm) _ (λop uJ=>by obtain⟨e,_,rfl⟩:=Go.Conc.mem_ofEvents uJ;rfl)
   refine⟨_,_,upd q (i+1) k,uw.trans acw,?_,⟨by simpa using hsz,⟨λj x hj hx=>?_,λj hj=>?_⟩,⟨B,hP.mute ae hm⟩,Jq.mute hT ae hm⟩,?_⟩
   .rw[jr ae,oG,h0];simp[woken_run sJ]
   .by_cases hji:j=i+1
    .subst hji;rw[Array.getElem?_setIfInBounds_self_of_lt (by simpa using qE)]at hx;cases hx;rw[upd_same,Deaf_own];exact hq'
    .rw[jr (λe=>hji e.symm),oG]at hx;obtain⟨y,hy,rfl⟩:=bT.1 hx;have hqj:=hL.old j y hj hy;rw[woken_quitsD hqj,upd_ne q k hji,others j hji];exact hqj
   .have Pq:gs.size<=j:=jb;rw[others j ae];exact hL.above j Pq
   .have hsum:sumTo gs.size (upd q (i+1) k)+(k+1)=sumTo gs.size q+k:=by
     have:=sumTo_upd q k id qE;simpa[hqi]using this
    simp only[Array.size_setIfInBounds,Array.size_map];omega
theorem late(wZ:∀m m' ops t,stepT P m=(.next m',ops)->Fin m' (t++ops)->Fin m t)(hD:∀n w es,D n w es->DM Shun n w es){e:Nat}
  (sU:∀gs a w sl t q,gs[0]?=some a->(∀d,Stop a (w.at d))->IE P Shun e gs w t q->Fin (crowd gs w sl) t) {a:Goroutine} {w:World} (hG:rV P D Stop a w):
  ∀(d:Nat)(gs:Array Goroutine)(sl:Option (Nat×Nat))(t:Trace)(q:Nat->Nat),gs[0]?=some a->IE P Shun e gs w t q->Fin (crowd gs (w.at d) sl) t:=by
 induction hG with
 |stop h=>exact λd gs sl t q h0 hB=>sU gs _ _ sl t q h0 (λd'=>h d') ⟨hB.size,hB.old,hB.past,hB.late⟩
 |@step g w n u es sJ hs _ ih=>
  have own:∀(d:Nat)(gs:Array Goroutine)(sl:Option (Nat×Nat))(t:Trace)(q:Nat->Nat)(m:Machine),gs[0]?=some g->IE P Shun e gs w t q->stepT P m=runT P (crowd gs (w.at d) sl) 0->Fin m t:=by
   rintro d gs sl t q m h0 ⟨hsz,hL,⟨B,hP⟩,hT⟩ h;obtain⟨h1,h2⟩:=hs d;have h2:=hD _ _ _ h2;have acw:=runT_crowd_go (P:=P) (sl:=sl) (i:=0) h0 (show stepG P (0==0) g (w.at d)=_ from h1);obtain⟨B',hB'⟩:=Vb (es d);have qE:0<gs.size:=(bf.1 h0).1;refine wZ _ _ _ _ (h.trans acw) ?_
   have:=ih d (u d).drawn ((gs.map (woken P g (n d) (u d))).setIfInBounds 0 (n d)) sl (t++MemOp.ofEvents 0 g.frame.fn g.frame.place (es d)) q (by simp[qE])
    ⟨by simpa using hsz,⟨λj x hj hx=>by
     rw[jr ae,oG]at hx;obtain⟨y,hy,rfl⟩:=bT.1 hx;have hq:=hL.old j y hj hy;rw[woken_quitsD hq,Deaf_other t (g':=0) ae _ (λop uJ=>by obtain⟨e,_,rfl⟩:=Go.Conc.mem_ofEvents uJ;rfl)];exact hq,λj hj=>by
     have Pq:gs.size<=j:=jb;rw[Deaf_other t (g':=0) ae _ (λop uJ=>by obtain⟨e,_,rfl⟩:=Go.Conc.mem_ofEvents uJ;rfl)];exact hL.above j Pq⟩,
    ⟨max B B',(hP.mono (nM B B')).own λx hx=>⟨(h2.2 x hx).1.1,(h2.2 x hx).1.2.1,(h2.2 x hx).1.2.2,MemAct.low_mono (nK B B') (hB' x hx)⟩⟩,Jq.app0 hT h2.1 h2.2⟩
   exact this
  have key:∀(M d:Nat)(gs:Array Goroutine)(sl:Option (Nat×Nat))(t:Trace)(q:Nat->Nat),sumTo gs.size q<=M->gs[0]?=some g->IE P Shun e gs w t q->Fin (crowd gs (w.at d) sl) t:=by
   intro M
   induction M with
   |zero=>
    intro d gs sl t q hM h0 hB;obtain⟨d',sl',h|⟨Nl,ops,q',_,_,_,h⟩⟩:=Vd (w:=w.at d) (sl:=sl) h0 sJ (hB.at d)
    .exact own d' gs sl' t q _ h0 hB h
    .omega
   |succ M ihM=>
    intro d gs sl t q hM h0 hB;obtain⟨d',sl',h|⟨Nl,ops,q',h1,h2,h3,h5⟩⟩:=Vd (w:=w.at d) (sl:=sl) h0 sJ (hB.at d)
    .exact own d' gs sl' t q _ h0 hB h
    .exact wZ _ _ _ _ h1 (ihM d' Nl sl' (t++ops) q' ae h2 ⟨h3.size,h3.old,h3.past,h3.late⟩)
  exact λd gs sl t q h0 hB=>key _ d gs sl t q (ak _) h0 hB
def Ok(P:Program)(Post:Value->World->Prop)(m:Machine)(t:Trace):Prop:=
 ∃N last o w' t',runNT P (N+1) m t=(.ended o w',t')/\runN P N m=.next last/\step P last=.ended o w'/\Good P Post last o w' t'
theorem U1{Post:Value->World->Prop}(m m':Machine)(ops:Array MemOp)(t:Trace)(h:stepT P m=(.next m',ops))(h':Ok P Post m' (t++ops)):Ok P Post m t:=by
 obtain⟨N,last,o,w',t',h1,h2,h3,h4⟩:=h';refine⟨N+1,last,o,w',t',by rw[runNT_succ_next h];exact h1,?_,h3,h4⟩;have:step P m=.next m':=by rw[step,h]
 rw[runN,this];exact h2
theorem ao2{Post:Value->World->Prop}{gs:Array Goroutine}{a:Goroutine}{w:World}{sl:Option (Nat×Nat)}{t:Trace}{q:Nat->Nat}(h0:gs[0]?=some a)(es:Array Event)(Xa:∀e∈es,EvM Shun e)(sJ:a.status=.running)
  (h:∀d,∃v,stepG P true a (w.at d)=.ended (.done v) (w.at d) es/\Post v (w.at d)) {e:Nat} (hB:IE P Shun e gs w t q):Ok P Post (crowd gs w sl) t:=by
 obtain⟨_,hL,⟨B,hP⟩,_⟩:=hB;obtain⟨B',hB'⟩:=Vb es;refine beside_ends (P:=P) (Shun:=Shun) (B:=max B B') (D:=λ_ _ _=>False) (n:=0) (λ_ _ _ x=>x.elim) h0 hL (hP.mono (nM _ _)) ?_;rintro w₁ ⟨d,rfl⟩;obtain⟨v,h1,h2⟩:=h d;exact⟨sJ,v,es,h1,λe he=>⟨(Xa e he).1,(Xa e he).2.1,(Xa e he).2.2,MemAct.low_mono (nK B B') (hB' e he)⟩,h2⟩
end
section
variable [Payload][qV][yw]
variable {P:Program}{ty:TypeId}{Wg C n B:Nat}{M:Nat->Prop}{WP:Nat->Value->World->Prop}{K:List Nat->Goroutine->World->Prop}{N:Nat}{Fin:Machine->Trace->Prop}{t:Trace}
theorem adT[rQ](hb:O_ Wg C n B M WP K)(S_:N<2147483648)
  (hE:∀ids gs a W l sl t q,gs[0]?=some a->W.output=yw.o0->W.os=yw.os0->(∃st sm,WgAt ty Wg W st sm)->K ids a (gw W l)->PayAt C n W->(∀x∈ids,∃v l',Has C x v W/\WP x v (gw W l')/\∀b∈l',B<=b)->IE P (GV Wg) N gs W t q->Fin (crowd gs W sl) t):∀μ m t,Iv P ty Wg C n B M WP K N μ m t->
  Fin m t\/(∃m' ops μ',stepT P m=(.next m',ops)/\Lt2 μ' μ/\Iv P ty Wg C n B M WP K N μ' m' (t++ops)):=by
 rintro μ m t h;obtain⟨gs,W,sl,j,D,ix,ow,tag,r,f0,d0,a,st,sm,l0,ids,rfl,ha,QD,sF,wP,qW,DY,Lc,Gz,hN,rfl⟩:=h;have hpd:=QD.amb
 have go:(tag=.ret->∃m' gT,f0=m'+1/\(∀w₁,RL ty Wg W w₁->∃g' w' es,stepG P true a w₁=.go g' w' es/\DC0 w₁ w' es/\Goes P true (RL ty Wg) DC0 (ai_ gT) m' g' w')/\K ids gT (gw W l0)/\d0=0)->
   ∃m' ops μ',stepT P (crowd gs W sl)=(.next m',ops)/\Lt2 μ' (phi N (Vc j D) tag+Ssum j D,f0+2*Fsum j D)/\Iv P ty Wg C n B M WP K N μ' m' (t++ops):=by
  intro asX;obtain⟨i,g,d,sl',hg,sJ,rH⟩:=crowd_pick (P:=P) (w:=W) (sl:=sl) (ajh ha QD sF) (agk ha QD sF qW);rw[rH];have hl0:∀b∈l0,b∉([]:List Nat)/\b<W.heap.size/\b≠C/\b≠Wg:=λb Ir=>⟨ai,(sF.gm.C_ b Ir).2,by have:=(sF.gm.C_ b Ir).1;have:=sF.gm.hC;omega,by have:=(sF.gm.C_ b Ir).1;have:=sF.gm.hW;omega⟩
  have Yo:P8 ty Wg C n [] (λ_=>False) W (W.at d):=P8.at W d;have Jp:=QD.rely hb.k Yo sF.gm.hB ai hl0 (λ_=>False.elim);have Xe:=sF.at hb.wp d;have Le:WgAt ty Wg (W.at d) st sm:=wP;cases i with
  |zero=>
   rw[ha]at hg;cases hg;have giv:XP P ty Wg C n B M WP K N j r gs (W.at d) t D ix ow l0 ids d0 a st sm:=⟨hb,S_,ha,Xe,Le,Lc,Gz,hN⟩;by_cases hr:tag=.ret
   .obtain⟨m',gT,rfl,hs,hK,rfl⟩:=asX hr;subst hr;have L6:r=0:=by cases QD;rfl
    subst L6;obtain⟨a',w',es,hgo,⟨rfl,rfl⟩,uB⟩:=hs (W.at d) Yo.live;have hK':K ids gT (gw (W.at d) l0):=hb.k _ _ _ _ (Yo.ro sF.gm.hB ai hl0 (λ_ _=>id)) hK;exact giv.idle (sl:=sl') (f0:=m'+1) hgo (.ret uB hK') qW DY ae
   .rcases arw (sl:=sl') giv Jp qW DY sJ with⟨h1,_⟩|h
    .exact absurd h1 hr
    .exact h
  |succ i=>
   have hi:i<j:=by have:=(bf.1 hg).1;rw[sF.size]at this;omega
   rcases aQ i rQ.el with he|he
   .exact aji (sl:=sl') ha Jp Xe Le qW DY Lc Gz hN he hg sJ
   .exact stepW (sl:=sl') hb S_ ha Jp Xe Le qW DY Lc Gz hN ae he hi hg sJ
 by_cases hr:tag=.ret
 .subst hr;cases QD with
  |@ret m _ gT _ hG hK=>
   rcases Goes.cases hG with sU|⟨m',rfl,hs⟩
   .obtain⟨_,rfl⟩:=sU W (BI ty Wg W);obtain⟨hq,rfl,rfl⟩:=qW.fin_inv trivial;obtain⟨B₀,hB₀⟩:=FI t
    have BF:∀x∈ids,∃v l',Has C x v W/\WP x v (gw W l')/\∀b∈l',B<=b:=by
     intro x hx;obtain⟨i,he,hi,rfl⟩:=Gz x hx;obtain⟨g,hg,hs⟩:=sF.wk i he hi;rw[hq i hi]at hs;cases hs with
     |lib _ _ h3 h4=>exact⟨_,_,h4 ae,h3,λb hb=>(sF.gm.own i hi b hb).1⟩
    exact .inl (hE ids gs a W l0 sl t _ ha sF.out sF.os ⟨_,_,wP⟩ hK sF.pay BF ⟨by rw[sF.size];omega,Ze sF hq,⟨B₀,agl sF (DY rfl) hB₀⟩,by have:=agm sF;rwa[show j=N by omega]at this⟩)
   .exact .inr (go λ_=>⟨m',gT,rfl,hs,hK,rfl⟩)
 .exact .inr (go λh=>absurd h hr)
theorem ajL[rQ](wZ:∀m m' ops t,stepT P m=(.next m',ops)->Fin m' (t++ops)->Fin m t)(hb:O_ Wg C n B M WP K)(S_:N<2147483648)
  (hE:∀ids gs a W l sl t q,gs[0]?=some a->W.output=yw.o0->W.os=yw.os0->(∃st sm,WgAt ty Wg W st sm)->K ids a (gw W l)->PayAt C n W->(∀x∈ids,∃v l',Has C x v W/\WP x v (gw W l')/\∀b∈l',B<=b)->IE P (GV Wg) N gs W t q->Fin (crowd gs W sl) t):∀μ m t,Iv P ty Wg C n B M WP K N μ m t->Fin m t:=by
 intro μ;refine(Prod.lex Nat.lt_wfRel Nat.lt_wfRel).wf.induction (C:=λμ=>∀m t,Iv P ty Wg C n B M WP K N μ m t->Fin m t) μ λμ ih m t h=>?_
 rcases adT hb S_ hE μ m t h with h1|⟨m',ops,μ',h1,h2,h3⟩
 .exact h1
 .exact wZ _ _ _ _ h1 (ih μ' h2 m' _ h3)
theorem YP(wZ:∀m m' ops t,stepT P m=(.next m',ops)->Fin m' (t++ops)->Fin m t){gs:Array Goroutine}{a:Goroutine}{W:World}{sl:Option (Nat×Nat)}{q:Nat->Nat}{e:Nat}(h0:gs[0]?=some a)(hB:IE P (GV Wg) e gs W t q)
  (hold:∀b,qV.old b->b<B/\b≠C) (hW:Wg<B) (hC:C<B) (hCW:C≠Wg) (hBs:B<=W.heap.size) (wP:WgAt ty Wg W 0 0) (apz:PayAt C n W) (hsp:Sp P ty Wg C n B M WP K N [] a (gw W []))
  (hb:O_ Wg C n B M WP K) (S_:e+N<2147483648) (ho:W.output=yw.o0) (hos:W.os=yw.os0)
  (hE:∀ids gs a W l sl t q,gs[0]?=some a->W.output=yw.o0->W.os=yw.os0->(∃st sm,WgAt ty Wg W st sm)->K ids a (gw W l)->PayAt C n W->(∀x∈ids,∃v l',Has C x v W/\WP x v (gw W l')/\∀b∈l',B<=b)->IE P (GV Wg) (e+N) gs W t q->Fin (crowd gs W sl) t):Fin (crowd gs W sl) t:=by
 letI:rQ:=⟨e,t.size⟩;obtain⟨Bp,hP⟩:=hB.past;obtain⟨μ,hI⟩:=XQ (sl:=sl) h0 hB.size hB.old hP hB.late rfl hold hW hC hCW hBs wP apz hsp ho hos;exact ajL wZ hb S_ hE μ _ _ hI
omit [Payload][qV][yw]in
theorem ajD{a:Goroutine}{W:World}{Shun:Loc->Prop}(h0:∀op∈t,op.g=0)(hS:∀op∈t,∀x,op.act.touch?=some x->¬Shun x.loc)(uy:∀op∈t,∀x,op.act.touch?=some x->∀ad,x.loc=.cell ad->ad.block<W.heap.size)(hd:Deaf t 0=0):IE P Shun 0 #[a] W t (λ_=>0):=by
 refine⟨rfl,⟨λi g hi hg=>?_,λi hi=>?_⟩,?_,⟨λi op x hi hx hs=>absurd hs (hS op (eG hi) x hx),λop uJ=>dX (h0 op uJ),λop uJ x hx=>⟨uy op uJ x hx,λh=>absurd (h0 op uJ) h⟩⟩⟩
 .have:=(bf.1 hg).1;simp at this;omega
 .exact Deaf_absent λa op ha e=>by have:=h0 op (eG ha);simp at hi;omega
 .obtain⟨B₀,hB₀⟩:=FI t;refine⟨B₀,λsaid=>?_,λi x hx _=>.inl ?_,λi g hg hne _=>?_,hd,hB₀⟩
  .have:=noRace_append (said:=said) (t:=#[]) (u:=t) (g:=0) (by rintro⟨i,j,_,⟨a,b,ha,_⟩,_⟩;simp[Trace.act?]at ha) h0 (λi a ha=>by simp[touchAt,Trace.act?]at ha);exact aww
  .obtain⟨op,ho,_⟩:=touch_of hx;have:=knows_own ho;rwa[h0 op (eG ho)]at this
  .obtain⟨op,ho,rfl⟩:=bT.1 hg;exact absurd (h0 op (eG ho)) hne
omit [Payload][qV][yw]in
theorem IE.more{Shun Shun':Loc->Prop}{gs:Array Goroutine}{W:World}{q:Nat->Nat}{e:Nat}(h:IE P Shun e gs W t q)(h1:∀l,Shun l->Shun' l)(h2:∀l,Shun' l->Shun l\/∃a:Addr,l=.cell a/\W.heap.size<=a.block):IE P Shun' e gs W t q:=by
 obtain⟨h3,h4,⟨B,hP⟩,hT⟩:=h;refine⟨h3,h4,⟨B,hP.clean,λi x hx hm=>(hP.known i x hx hm).imp id λy=>⟨h1 _ y.1,y.2⟩,hP.over,hP.hears,hP.seen⟩,⟨λi op x hi hx hs=>?_,hT.gs,hT.low⟩⟩;rcases h2 _ hs with h|⟨a,ha,hl⟩
 .exact hT.quiet i op x hi hx h
 .have:=(hT.low op (eG hi) x hx).1 a ha;omega
omit [Payload][qV][yw]in
theorem amo{Post:Value->World->Prop}{Shun:Loc->Prop}{gs:Array Goroutine}{a:Goroutine}{W:World}{sl:Option (Nat×Nat)}{q:Nat->Nat}{e:Nat}(h0:gs[0]?=some a)(hB:IE P Shun e gs W t q)
  (hE:rV P (DM Shun) (λa w=>a.status=.running/\∃es,(∀e∈es,EvM Shun e)/\∀d,∃v,stepG P true a (w.at d)=.ended (.done v) (w.at d) es/\Post v (w.at d)) a W):Ok P Post (crowd gs W sl) t:=
 late (Fin:=Ok P Post) U1 (λ_ _ _ h=>h) (λ_ _ w _ _ _ h0 uw hB=>let⟨sJ,es,h1,h2⟩:=uw w.drawn;ao2 h0 es h1 sJ h2 hB) hE W.drawn gs sl t q h0 hB
end
end Go.Lf
namespace Go.Lf
open Go.Conc
section
variable {P:Program}{F:FuncId->Bool}{X:Nat->Prop}{Y:Nat->Option Obj}{D:Nat->World->Array Event->Prop}{Stop:Goroutine->World->Prop}{Φ:Goroutine->World->Prop}{f:FuncId}{k:List Item}{cs:List Frame}
def uh(P:Program)(X:Nat->Prop)(Y:Nat->Option Obj)(D:Nat->World->Array Event->Prop)(Stop:Goroutine->World->Prop)(f:FuncId)(cs:List Frame)(k:List Item)(a:Act)(v:World):Prop:=
 ∀w,qL X Y w v->rV P D Stop (G ((base f).at a k) cs) w
theorem abS(hF:xB P F)(hD:vw X D){c:Code}(hc:GR P F c=true){a:Act}{v:World}(ha:a.defers=[])(hf:∃fn,P.funcs[f]?=some fn)(h:∀τ d,c.wp P (λe a' v'=>e=.normal/\a'.defers=[]/\uh P X Y D Stop f cs k a' v') a {v with tape:=τ,drawn:=d}):uh P X Y D Stop f cs (.code c::k) a v:=
 λ_ hs=>ar6 hF hD hc h (λ_ _ _ x=>⟨x.1,x.2.1⟩) ha hf hs λ_ _ w' hq xn=>hq.2.2 w' xn
theorem Jf(hD:vw X D){a:Act}{v:World}{k k':List Item}(h:∀w,stepG P true (G ((base f).at a k) cs) w=.go (G ((base f).at a k') cs) w #[])(hr:uh P X Y D Stop f cs k' a v):uh P X Y D Stop f cs k a v:=
 λw hs=>.next rfl λd=>⟨_,_,_,h (w.at d),hD.nil (ak _),hr _ (hs.at d)⟩
theorem vX(hD:vw X D){c d:Code}{a:Act}{v:World}(ha:a.defers=[])(hr:uh P X Y D Stop f cs (.code c::.code d::k) a v):uh P X Y D Stop f cs (.code (.seq c d)::k) a v:=by refine Jf hD (λw=>?_) hr;obtain⟨t,d⟩:=a;subst ha;rfl
theorem adU(hF:xB P F)(hD:vw X D){c d:Code}(hc:GR P F c=true){a:Act}{v:World}(ha:a.defers=[])(hf:∃fn,P.funcs[f]?=some fn)(h:∀τ d',c.wp P (λe a' v'=>e=.normal/\a'.defers=[]/\uh P X Y D Stop f cs (.code d::k) a' v') a {v with tape:=τ,drawn:=d'}):uh P X Y D Stop f cs (.code (.seq c d)::k) a v:=
 vX hD ha (abS hF hD hc ha hf h)
theorem qQ(hF:xB P F)(hD:vw X D){c d:Code}(hc:GR P F c=true){a:Act}{v:World}(ha:a.defers=[])(hf:∃fn,P.funcs[f]?=some fn)(h:∀R:Act->World->Prop,(∀a' v',uh P X Y D Stop f cs (.code d::k) a' v'->R a' v')->∀τ d',c.wp P (λe a' v'=>e=.normal/\a'.defers=[]/\R a' v') a {v with tape:=τ,drawn:=d'}):uh P X Y D Stop f cs (.code (.seq c d)::k) a v:=
 adU hF hD hc ha hf (h _ λ_ _ x=>x)
theorem N7{w v:World}{a:Addr}{u:Value}(h:xE X Y w v)(hc:v.cell? a=some u):w.cell? a=some u:=by obtain⟨h1,h2,_⟩:=h.afT hc;rw[h.cell h1 h2];exact hc
