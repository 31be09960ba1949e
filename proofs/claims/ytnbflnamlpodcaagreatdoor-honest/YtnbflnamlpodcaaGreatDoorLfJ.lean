import Derived.Test.YtnbflnamlpodcaaGreatDoorLfF
import Derived.Test.YtnbflnamlpodcaaGreatDoorGhL
namespace Go.Lf
open Go.Conc Go.ConcN
open Go.ConcR (KK WgAt stA smA rd wr mk Payload DC0 g_of_ofEvents)
section
variable {P:aN}{X:Nat->Prop}
end
end Go.Lf
namespace Go.Lf
open Go.Conc Go.ConcN
def uU(X:Nat->Prop)(D:Nat->ah->aH->Prop):Prop:=∀n w es,n<=w.heap.size->OM X w es->D n w es
theorem uU.nil{X:Nat->Prop}{D:Nat->ah->aH->Prop}(h:uU X D){n:Nat}{w:ah}(hs:n<=w.heap.size):D n w #[]:=h _ _ _ hs λ_ he=>n_
theorem uU.to{X:Nat->Prop}{D:Nat->ah->aH->Prop}(h:uU X D){n:Nat}{w w':ah}{es:aH}(hs:w.heap.size=w'.heap.size)(hn:n<=w.heap.size)(he:OM X w es):D n w' es:=h _ _ _ (hs▸hn) λe hm=>(he e hm).grow (fQ hs)
inductive r_ (P:aN) (D:Nat->ah->aH->Prop) (Stop:aG->ah->Prop):aG->ah->Prop
 |stop {g:aG} {w:ah}:(∀d,Stop g (w.at d))->r_ P D Stop g w
 |step {g:aG} {w:ah} (n:Nat->aG) (u:Nat->ah) (es:Nat->aH):g.status=.running->(∀d,stepG P true g (w.at d)=.go (n d) (u d) (es d)/\D w.heap.size (u d) (es d))->(∀d,r_ P D Stop (n d) (u d))->r_ P D Stop g w
section
variable {P:aN}{F:aU->Bool}{X:Nat->Prop}{Y:Nat->aV}{D:Nat->ah->aH->Prop}{Stop:aG->ah->Prop}
theorem r_.next{g:aG}{w:ah}(hs:g.status=.running)(h:∀d,∃g' w' es,stepG P true g (w.at d)=.go g' w' es/\D w.heap.size w' es/\r_ P D Stop g' w'):r_ P D Stop g w:=by
 refine .step (λd=>(h d).choose) (λd=>(h d).choose_spec.choose) (λd=>(h d).choose_spec.choose_spec.choose) hs (λd=>⟨?_,?_⟩) (λd=>?_)
 .exact(h d).choose_spec.choose_spec.choose_spec.1
 .exact(h d).choose_spec.choose_spec.choose_spec.2.1
 .exact(h d).choose_spec.choose_spec.choose_spec.2.2
def qQ(X:Nat->Prop)(Y:Nat->aV)(w v:ah):Prop:=∃τ d,xZ X Y w {v with tape:=τ,drawn:=d}
theorem xZ.t{w v:ah}(h:xZ X Y w v):qQ X Y w v:=⟨v.tape,v.drawn,h⟩
theorem qQ.re{w v:ah}(h:qQ X Y w v)(d d':Nat)(τ:Nat->Question->Nat)(hs:∀i q,w.tape (d+i) q=τ (d'+i) q):xZ X Y (w.at d) {v with tape:=τ,drawn:=d'}:=by obtain⟨τ0,d0,h⟩:=h;exact⟨h.size,h.bound,h.same,h.gho,h.doc,h.nv,h.os,h.out,hs,h.unf⟩
theorem qQ.to{w v:ah}(h:qQ X Y w v)(τ:Nat->Question->Nat)(d:Nat):qQ X Y w {v with tape:=τ,drawn:=d}:=by obtain⟨τ0,d0,h⟩:=h;exact⟨τ0,d0,h⟩
theorem qQ.at{w v:ah}(h:qQ X Y w v)(d:Nat):qQ X Y (w.at d) v:=⟨λp=>w.tape (d+p),0,h.re d 0 _ λi q=>ax⟩
structure Sg where
 f:aJ
 r:aP
 u:ah
 w:ah
variable (P F X Y D Stop)in
structure SX(K:b_)(cs:aP)(fn:aU)(Q:Exit->Act->ah->Prop)(s:Sg):Prop where
 tf:JB P F s.f
 mode:s.f.mode=.run\/s.f.mode=.returning
 stack:Stack P F s.r
 WM:qQ X Y s.w s.u
 law:∀τ:Nat->Question->Nat,(∀p,p<s.u.drawn->τ p=s.u.tape p)->∃n a' v',GR P n s.f (s.r++[f0]) {s.u with tape:=τ} ((base fn).at a' []) [f0] v'/\Q .normal a' v'
 no:¬r_ P D Stop (ahr K cs s.f s.r) s.w
variable (P)in
def Dy(s s':Sg):Prop:=s.u.drawn<=s'.u.drawn/\(∀p,p<s.u.drawn->s'.u.tape p=s.u.tape p)/\
 ∀τ:Nat->Question->Nat,(∀p,s.u.drawn<=p->p<s'.u.drawn->τ p=s'.u.tape p)->∃es,stepG P true (G s.f (s.r++[f0])) {s.u with tape:=τ}=.go (G s'.f (s'.r++[f0])) {s'.u with tape:=τ} es
theorem aem{K:b_}{cs:aP}{fn:aU}{Q:Exit->Act->ah->Prop}(hK:∀a' v' w',Q .normal a' v'->qQ X Y w' v'->r_ P D Stop (G ((base fn).at a' K) cs) w'){s:Sg}(hi:SX P F X Y D Stop K cs fn Q s){τ:Nat->Question->Nat}{a':Act}{v':ah}
  (h:GR P 0 s.f (s.r++[f0]) {s.u with tape:=τ} ((base fn).at a' []) [f0] v') (hq:Q .normal a' v'):False:=by
 obtain⟨h1,h2,h3⟩:=zG h
 have hr:s.r=[]:=by exact ayM
 apply hi.no;have:ahr K cs s.f s.r=G ((base fn).at a' K) cs:=awH;exact azQ
theorem anm{f:aJ}(hT:JB P F f)(hm:f.mode=.run)(ht:f.todo=[])(cs:aP)(u:ah):stepG P true (G f cs) u=.go (G {f with mode:=.returning} cs) u #[]:=by obtain⟨fn,tmps,todo,defers,mode,kind,round⟩:=f;have hk:=hT.kind;have hd:=hT.defers;have hr:=hT.round;dsimp only at hk hd hr ht hm;subst hk hd hr ht hm;rfl
theorem aaq(hF:xY P F)(hD:uU X D){K:b_}{cs:aP}{fn:aU}{Q:Exit->Act->ah->Prop}(hK:∀a' v' w',Q .normal a' v'->qQ X Y w' v'->r_ P D Stop (G ((base fn).at a' K) cs) w'){s:Sg}
  (hi:SX P F X Y D Stop K cs fn Q s):∃s',SX P F X Y D Stop K cs fn Q s'/\Dy P s s':=by
 have uw:(ahr K cs s.f s.r).status=.running:=by cases s.r<;>rfl
 obtain⟨d,hd⟩:∃d,∀g' w' es,stepG P true (ahr K cs s.f s.r) (s.w.at d)=.go g' w' es->D s.w.heap.size w' es->¬r_ P D Stop g' w':=by
  refine jG λRt=>hi.no (.next uw λd=>?_)
  exact ay0
 let τ₁:Nat->Question->Nat:=λp q=>if p<s.u.drawn then s.u.tape p q else s.w.tape (d+(p-s.u.drawn)) q
 have hs:xZ X Y (s.w.at d) {s.u with tape:=τ₁}:=hi.WM.re d s.u.drawn τ₁ λi q=>by
  show s.w.tape (d+i) q=if s.u.drawn+i<s.u.drawn then _ else _
  exact ayI
 have hag:∀p,p<s.u.drawn->τ₁ p=s.u.tape p:=λp hp=>by
  funext q
  exact ayN
 obtain⟨n,a',v',hn,hq⟩:=hi.law τ₁ hag;cases n with
 |zero=>exact(aem hK hi hn hq).elim
 |succ n=>
  have mk:∀(f':aJ)(r':aP)(u₂ w₂:ah)(es:aH),JB P F f'->(f'.mode=.run\/f'.mode=.returning)->Stack P F r'->xZ X Y w₂ u₂->Tp P (G s.f (s.r++[f0])) {s.u with tape:=τ₁} (G f' (r'++[f0])) u₂ es->
    stepG P true (ahr K cs s.f s.r) (s.w.at d)=.go (ahr K cs f' r') w₂ es->s.w.heap.size<=w₂.heap.size->OM X w₂ es->∃s',SX P F X Y D Stop K cs fn Q s'/\Dy P s s':=λf' r' u₂ w₂ es h1 h2 h3 h4 h5 h6 h8 h7=>by
   obtain⟨t1,t2,t3⟩:=h5;dsimp only at t1 t2 t3;refine⟨⟨f',r',u₂,w₂⟩,⟨h1,h2,h3,h4.t,λτ hτ=>?_,hd _ _ _ h6 (hD _ _ _ h8 h7)⟩,t2,λp hp=>awx,λτ hτ=>⟨es,t3 τ λp EE CE=>awD⟩⟩;dsimp only at hτ;obtain⟨n,a',v',hn,hq⟩:=hi.law τ λp hp=>awF
   cases n with
   |zero=>exact(aem hK hi hn hq).elim
   |succ n=>exact⟨n,a',v',xw (t3 τ λp _ CE=>awE) hn,hq⟩
  rcases hi.mode with hm|hm
  .by_cases Rw:s.r=[]/\s.f.todo=[]
   .obtain⟨hr,ht⟩:=Rw;rw[hr]at hn;have e:=anm hi.tf hm ht ([]++[f0]) {s.u with tape:=τ₁};have h2:=xw e hn;cases n with
    |zero=>
     obtain⟨h3,_⟩:=zG h2;have:=bI Frame.mode h3;cases this
    |succ n=>
     rcases RV (c:=f0) (r:=[]) (f:={s.f with mode:=.returning}) (F:=F) ⟨hi.tf.fn,hi.tf.kind,hi.tf.defers,hi.tf.round,hi.tf.todo⟩ rfl hs with⟨o,MB,rZ,he⟩|⟨y,MB,rZ,w',he,_⟩
     .exact(yA he h2).elim
     .exact absurd (xw he h2) (U4 n _ _ v')
   .rcases anV (cs:=s.r++[f0]) hF hi.tf hm hs with⟨o,MB,rZ,he⟩|⟨ch,MB,rZ,he⟩|⟨g',MB,rZ,w',he,htp,xU,hsz,hev,aiW⟩
    .exact ayk
    .exact aze
    .cases aiW with
     |@here f' hg XT WC hB=>
      subst hg;refine mk f' s.r MB w' rZ XT WC hi.stack xU htp ?_ hsz hev;cases hr:s.r with
      |nil=>exact hB K cs λht=>absurd ⟨hr,ht⟩ Rw
      |cons c r=>
       have:=hB [] (akz K cs (c::r)) (λ_=>rfl);rw[zH,zH]at this;exact this
     |@call e hg hTe hme hne hB=>
      subst hg;refine mk e (s.f::s.r) MB w' rZ hTe (.inl hme) ⟨⟨hi.tf,hm,hne.1,QD hi.tf hm hne⟩,hi.stack⟩ xU htp ?_ hsz hev;cases hr:s.r with
      |nil=>exact hB K cs
      |cons c r=>
       have:=hB [] (akz K cs (c::r));rw[zH]at this;exact this
     |back _ _ hr _=>rw[hm]at hr;cases hr
  .cases hr:s.r with
   |nil=>
    rw[hr]at hn;rcases RV (c:=f0) (r:=[]) (F:=F) hi.tf hm hs with⟨o,MB,rZ,he⟩|⟨y,MB,rZ,w',he,_⟩
    .exact ayk
    .exact absurd (xw he hn) (U4 n _ _ v')
   |cons c r=>
    have hS:=hi.stack;rw[hr]at hn hS mk;rcases RV (c:=c) (r:=r++[f0]) (F:=F) hi.tf hm hs with⟨o,MB,rZ,he⟩|⟨y,MB,rZ,w',he,htp,xU,hsz,hev,hB⟩
    .exact ayk
    .obtain⟨hTc,hmc,DR⟩:=hS.1.2.2.2 y;refine mk (c.finish y) r MB w' rZ hTc (.inl hmc) hS.2 xU htp ?_ hsz hev;cases r with
     |nil=>
      have:=hB (DN K c) cs;rw[DR K]at this;exact this
     |cons d r=>exact hB c (akz K cs (d::r))
theorem atI(hF:xY P F)(hD:uU X D){c:Code}(hc:Hz P F c=true){Q:Exit->Act->ah->Prop}{a:Act}{v:ah}(h:∀τ d,c.wp P Q a {v with tape:=τ,drawn:=d})(hQ:∀e a' v',Q e a' v'->e=.normal/\a'.defers=[])(ha:a.defers=[])
  {fn:aU} (hf:∃G9,P.funcs[fn]?=some G9) {w:ah} (hs:qQ X Y w v) {K:b_} {cs:aP} (hK:∀a' v' w',Q .normal a' v'->qQ X Y w' v'->r_ P D Stop (G ((base fn).at a' K) cs) w'):r_ P D Stop (G ((base fn).at a (.code c::K)) cs) w:=by
 refine jG λRt=>?_
 have start:SX P F X Y D Stop K cs fn Q ⟨(base fn).at a [.code c],[],{v with drawn:=0},w⟩:=by exact azd
 let nx:{s//SX P F X Y D Stop K cs fn Q s}->{s//SX P F X Y D Stop K cs fn Q s}:=λs=>⟨(aaq hF hD hK s.2).choose,(aaq hF hD hK s.2).choose_spec.1⟩
 have nxs:∀s,Dy P s.1 (nx s).1:=λs=>(aaq hF hD hK s.2).choose_spec.2
 let q:Nat->{s//SX P F X Y D Stop K cs fn Q s}:=λn=>Nat.rec ⟨_,start⟩ (λ_ s=>nx s) n
 have qs:∀n,Dy P (q n).1 (q (n+1)).1:=λn=>nxs (q n)
 have mono:∀n m,n<=m->(q n).1.u.drawn<=(q m).1.u.drawn/\∀p,p<(q n).1.u.drawn->(q m).1.u.tape p=(q n).1.u.tape p:=by
  intro n m Tm
  induction m with
  |zero=>
   obtain rfl:n=0:=ag;exact⟨az _,λ_ _=>rfl⟩
  |succ m ih=>
   rcases bJ n (m+1)with qK|Ws
   .exact ayR
   .exact ayC
 have dec:∀p,Decidable (∃n,p<(q n).1.u.drawn):=λp=>Classical.propDecidable _
 let τ:Nat->Question->Nat:=λp=>if h:∃n,p<(q n).1.u.drawn then(q h.choose).1.u.tape p else λ_=>0
 have agree:∀n p,p<(q n).1.u.drawn->τ p=(q n).1.u.tape p:=λn p hp=>by
  have hex:∃n,p<(q n).1.u.drawn:=⟨n,hp⟩;show(if h:∃n,p<(q n).1.u.drawn then(q h.choose).1.u.tape p else λ_=>0)=_;rw[lI hex];have hc:=hex.choose_spec;rcases avR n hex.choose with hle|hle
  .exact(mono n _ hle).2 p hp
  .exact ayL
 have never:∀(m i:Nat)(a':Act)(v':ah),GR P m (q i).1.f ((q i).1.r++[f0]) {(q i).1.u with tape:=τ} ((base fn).at a' []) [f0] v'->Q .normal a' v'->False:=by
  intro m
  induction m with
  |zero=>exact λi a' v' h hq=>aem hK (q i).2 h hq
  |succ m ih=>
   intro i a' v' h hq;obtain⟨es,he⟩:=(qs i).2.2 τ λp _ hp=>agree (i+1) p hp
   exact ih (i+1) a' v' (xw he h) hq
 obtain⟨n,a',v',hn,hq⟩:=(q 0).2.law τ λp hp=>agree 0 p hp
 exact never n 0 a' v' hn hq
end
end Go.Lf
namespace Go.Lf
open Go.Conc Go.ConcN Go.Gh
open Go.ConcR (KK WgAt stA smA rd wr mk Payload DC0 g_of_ofEvents)
def EvM(Shun:Loc->Prop)(e:Event):Prop:=(∀x,(MemAct.ofEvent e).touch?=some x->Shun x.loc->x.kind≠.plain)/\e.loc≠.mark .disable/\e.loc≠.mark .enable
theorem VP(es:aH):∃B,∀e∈es,(MemAct.ofEvent e).low B:=by
 obtain⟨B,hB⟩:=Gi (MemOp.ofEvents 0 0 "" es);refine⟨B,λe he=>?_⟩
 have:({g:=0,fn:=0,pos:= "",act:=.ofEvent e}:MemOp)∈MemOp.ofEvents 0 0 "" es:=by rw[ofEvents_eq];exact Array.mem_map.2 ⟨e,he,rfl⟩
 exact hB _ this
section
variable {P:aN}{Shun:Loc->Prop}{D:Nat->ah->aH->Prop}{Stop:aG->ah->Prop}{Fin:Machine->Trace->Prop}
structure Ji(P:aN)(Shun:Loc->Prop)(e:Nat)(gs:dE)(W:ah)(t:Trace)(q:Nat->Nat):Prop where
 size:gs.size=e+1
 old:Leavers P t gs q
 past:∃B,Past Shun B t
 late:JP Shun W.heap.size e t
theorem Ji.at{e:Nat}{gs:dE}{W:ah}{t:Trace}{q:Nat->Nat}(h:Ji P Shun e gs W t q)(d:Nat):Ji P Shun e gs (W.at d) t q:=⟨h.size,h.old,h.past,h.late⟩
theorem JP.app0{sz sz' e:Nat}{t:Trace}{fn:aU}{pos:String}{es:aH}(h:JP Shun sz e t)(hs:sz<=sz')(hes:∀x∈es,EvM Shun x/\∀y,(MemAct.ofEvent x).touch?=some y->∀ad,y.loc=.cell ad->ad.block<sz'):JP Shun sz' e (t++MemOp.ofEvents 0 fn pos es):=by
 refine⟨h.quiet.app λop uT x hx hsh=>?_,λop uT=>?_,λop uT x hx=>?_⟩
 .obtain⟨ev,he,rfl⟩:=Go.Conc.mem_ofEvents uT;exact⟨(hes ev he).1.1 x hx hsh,λ_=>rfl⟩
 .rcases nU.1 uT with h1|h1
  .exact h.gs op h1
  .obtain⟨ev,_,rfl⟩:=Go.Conc.mem_ofEvents h1;exact gY _
 .rcases nU.1 uT with h1|h1
  .exact⟨λad e'=>bG ((h.low op h1 x hx).1 ad e') hs,(h.low op h1 x hx).2⟩
  .obtain⟨ev,he,rfl⟩:=Go.Conc.mem_ofEvents h1;exact⟨(hes ev he).2 x hx,λh0=>absurd rfl h0⟩
theorem JP.mute{sz e i:Nat}{t:Trace}{fn:aU}{pos:String}{es:aH}(h:JP Shun sz e t)(hi:i<=e)(hm:∀x∈es,Event.mute x=true):JP Shun sz e (t++MemOp.ofEvents i fn pos es):=by
 have none:∀op∈MemOp.ofEvents i fn pos es,op.act.touch?=none/\op.g=i:=λop uT=>by obtain⟨ev,he,rfl⟩:=Go.Conc.mem_ofEvents uT;exact⟨touch_mute (hm ev he),rfl⟩
 refine⟨h.quiet.app λop uT x hx _=>(by rw[(none op uT).1]at hx;cases hx),λop uT=>?_,λop uT x hx=>?_⟩
 .rcases nU.1 uT with h1|h1
  .exact h.gs op h1
  .rw[(none op h1).2];exact hi
 .rcases nU.1 uT with h1|h1
  .exact h.low op h1 x hx
  .rw[(none op h1).1]at hx;cases hx
def DM(Shun:Loc->Prop)(n:Nat)(w:ah)(es:aH):Prop:=n<=w.heap.size/\∀e∈es,EvM Shun e/\∀x,(MemAct.ofEvent e).touch?=some x->∀ad,x.loc=.cell ad->ad.block<w.heap.size
theorem VQ{gs:dE}{a:aG}{w:ah}{sl:Option (Nat×Nat)}{t:Trace}{q:Nat->Nat}{e:Nat}(h0:gs[0]?=some a)(sW:a.status=.running)(hB:Ji P Shun e gs w t q):
  ∃d sl',stepT P (crowd gs w sl)=runT P (crowd gs (w.at d) sl') 0\/
   ∃Og ops q',stepT P (crowd gs w sl)=(.next (crowd Og (w.at d) sl'),ops)/\Og[0]?=some a/\Ji P Shun e Og w (t++ops) q'/\sumTo Og.size q'<sumTo gs.size q:=by
 obtain⟨hsz,hL,⟨B,hP⟩,hT⟩:=hB
 have haw:∀g∈gs,awake g:=λg hg=>by
  obtain⟨i,hi⟩:=pU.1 hg;cases i with
  |zero=>rw[h0]at hi;cases hi;exact awake_of (.inl sW)
  |succ i=>exact awake_of ((hL.old (i+1) g ag hi).status.elim .inl λx=>.inr (.inr x))
 obtain⟨i,g,d,sl',hi,hg,uw⟩:=crowd_pick (P:=P) (w:=w) (sl:=sl) haw ⟨0,a,h0,sW⟩;refine⟨d,sl',?_⟩;cases i with
 |zero=>exact .inl uw
 |succ i=>
  refine .inr ?_;have hq:=hL.old (i+1) g ag hi;have qK:i+1<gs.size:=(dh.1 hi).1;cases hqi:q (i+1)with
  |zero=>rw[hqi]at hq;rw[hq.1]at hg;cases hg
  |succ k=>
   rw[hqi]at hq;rcases hq with⟨hf,_⟩|⟨_,g',es,hm,aus,hq'⟩
   .rw[hf]at hg;cases hg
   have ac2:=runT_crowd_go (P:=P) (sl:=sl') (i:=i+1) hi (by rw[show(i+1==0)=false from rfl];exact aus (w.at d));have others:∀j,j≠i+1->Deaf (t++MemOp.ofEvents (i+1) g.frame.fn g.frame.place es) j=Deaf t j:=λj hj=>Deaf_other t (g':=i+1) (λe=>hj e.symm) _ (λop uT=>by obtain⟨e,_,rfl⟩:=Go.Conc.mem_ofEvents uT;rfl)
   refine⟨_,_,upd q (i+1) k,uw.trans ac2,?_,⟨by simpa using hsz,⟨λj x hj hx=>?_,λj hj=>?_⟩,⟨B,hP.mute ag hm⟩,JP.mute hT ag hm⟩,?_⟩
   .rw[jZ ag,pX,h0];simp[woken_run sW]
   .by_cases hji:j=i+1
    .subst hji;rw[Array.getElem?_setIfInBounds_self_of_lt (by simpa using qK)]at hx;cases hx;rw[upd_same,Deaf_own];exact hq'
    .rw[jZ (λe=>hji e.symm),pX]at hx;obtain⟨y,hy,rfl⟩:=dL.1 hx;have hqj:=hL.old j y hj hy;rw[woken_quitsD hqj,upd_ne q k hji,others j hji];exact hqj
   .have Jh:gs.size<=j:=jH;rw[others j ag];exact hL.above j Jh
   .have hsum:sumTo gs.size (upd q (i+1) k)+(k+1)=sumTo gs.size q+k:=by
     have:=sumTo_upd q k id qK;simpa[hqi]using this
    simp only[Array.size_setIfInBounds,Array.size_map];omega
theorem late(xE:∀m m' ops t,stepT P m=(.next m',ops)->Fin m' (t++ops)->Fin m t)(hD:∀n w es,D n w es->DM Shun n w es){e:Nat}
  (tK:∀gs a w sl t q,gs[0]?=some a->(∀d,Stop a (w.at d))->Ji P Shun e gs w t q->Fin (crowd gs w sl) t) {a:aG} {w:ah} (hG:r_ P D Stop a w):
  ∀(d:Nat)(gs:dE)(sl:Option (Nat×Nat))(t:Trace)(q:Nat->Nat),gs[0]?=some a->Ji P Shun e gs w t q->Fin (crowd gs (w.at d) sl) t:=by
 induction hG with
 |stop h=>exact λd gs sl t q h0 hB=>tK gs _ _ sl t q h0 (λd'=>h d') ⟨hB.size,hB.old,hB.past,hB.late⟩
 |@step g w n u es sW hs _ ih=>
  have own:∀(d:Nat)(gs:dE)(sl:Option (Nat×Nat))(t:Trace)(q:Nat->Nat)(m:Machine),gs[0]?=some g->Ji P Shun e gs w t q->stepT P m=runT P (crowd gs (w.at d) sl) 0->Fin m t:=by
   rintro d gs sl t q m h0 ⟨hsz,hL,⟨B,hP⟩,hT⟩ h;obtain⟨h1,h2⟩:=hs d;have h2:=hD _ _ _ h2;have ac2:=runT_crowd_go (P:=P) (sl:=sl) (i:=0) h0 (show stepG P (0==0) g (w.at d)=_ from h1);obtain⟨B',hB'⟩:=VP (es d);have qK:0<gs.size:=(dh.1 h0).1;refine xE _ _ _ _ (h.trans ac2) ?_
   have:=ih d (u d).drawn ((gs.map (woken P g (n d) (u d))).setIfInBounds 0 (n d)) sl (t++MemOp.ofEvents 0 g.frame.fn g.frame.place (es d)) q (by simp[qK])
    ⟨by simpa using hsz,⟨λj x hj hx=>by
     rw[jZ ag,pX]at hx;obtain⟨y,hy,rfl⟩:=dL.1 hx;have hq:=hL.old j y hj hy;rw[woken_quitsD hq,Deaf_other t (g':=0) ag _ (λop uT=>by obtain⟨e,_,rfl⟩:=Go.Conc.mem_ofEvents uT;rfl)];exact hq,λj hj=>by
     have Jh:gs.size<=j:=jH;rw[Deaf_other t (g':=0) ag _ (λop uT=>by obtain⟨e,_,rfl⟩:=Go.Conc.mem_ofEvents uT;rfl)];exact hL.above j Jh⟩,
    ⟨max B B',(hP.mono (oV B B')).own λx hx=>⟨(h2.2 x hx).1.1,(h2.2 x hx).1.2.1,(h2.2 x hx).1.2.2,MemAct.low_mono (oU B B') (hB' x hx)⟩⟩,JP.app0 hT h2.1 h2.2⟩
   exact this
  have key:∀(M d:Nat)(gs:dE)(sl:Option (Nat×Nat))(t:Trace)(q:Nat->Nat),sumTo gs.size q<=M->gs[0]?=some g->Ji P Shun e gs w t q->Fin (crowd gs (w.at d) sl) t:=by
   intro M
   induction M with
   |zero=>
    intro d gs sl t q hM h0 hB;obtain⟨d',sl',h|⟨Og,ops,q',_,_,_,h⟩⟩:=VQ (w:=w.at d) (sl:=sl) h0 sW (hB.at d)
    .exact own d' gs sl' t q _ h0 hB h
    .omega
   |succ M ihM=>
    intro d gs sl t q hM h0 hB;obtain⟨d',sl',h|⟨Og,ops,q',h1,h2,h3,h5⟩⟩:=VQ (w:=w.at d) (sl:=sl) h0 sW (hB.at d)
    .exact own d' gs sl' t q _ h0 hB h
    .exact xE _ _ _ _ h1 (ihM d' Og sl' (t++ops) q' ag h2 ⟨h3.size,h3.old,h3.past,h3.late⟩)
  exact λd gs sl t q h0 hB=>key _ d gs sl t q (az _) h0 hB
def Ok(P:aN)(Post:ai->ah->Prop)(m:Machine)(t:Trace):Prop:=
 ∃N last o w' t',runNT P (N+1) m t=(.ended o w',t')/\runN P N m=.next last/\step P last=.ended o w'/\Good P Post last o w' t'
theorem Ir{Post:ai->ah->Prop}(m m':Machine)(ops:Array MemOp)(t:Trace)(h:stepT P m=(.next m',ops))(h':Ok P Post m' (t++ops)):Ok P Post m t:=by
 obtain⟨N,last,o,w',t',h1,h2,h3,h4⟩:=h';refine⟨N+1,last,o,w',t',by rw[runNT_succ_next h];exact h1,?_,h3,h4⟩;have:step P m=.next m':=by rw[step,h]
 rw[runN,this];exact h2
theorem ap3{Post:ai->ah->Prop}{gs:dE}{a:aG}{w:ah}{sl:Option (Nat×Nat)}{t:Trace}{q:Nat->Nat}(h0:gs[0]?=some a)(es:aH)(hes:∀e∈es,EvM Shun e)(sW:a.status=.running)
  (h:∀d,∃v,stepG P true a (w.at d)=.ended (.done v) (w.at d) es/\Post v (w.at d)) {e:Nat} (hB:Ji P Shun e gs w t q):Ok P Post (crowd gs w sl) t:=by
 obtain⟨_,hL,⟨B,hP⟩,_⟩:=hB;obtain⟨B',hB'⟩:=VP es;refine beside_ends (P:=P) (Shun:=Shun) (B:=max B B') (D:=λ_ _ _=>False) (n:=0) (λ_ _ _ x=>x.elim) h0 hL (hP.mono (oV _ _)) ?_;rintro w₁ ⟨d,rfl⟩;obtain⟨v,h1,h2⟩:=h d;exact⟨sW,v,es,h1,λe he=>⟨(hes e he).1,(hes e he).2.1,(hes e he).2.2,MemAct.low_mono (oU B B') (hB' e he)⟩,h2⟩
end
section
variable [Payload][rq][yO]
variable {P:aN}{ty:aF}{Wg C n B:Nat}{M:Nat->Prop}{WP:Nat->ai->ah->Prop}{K:aA->aG->ah->Prop}{N:Nat}{Fin:Machine->Trace->Prop}{t:Trace}
theorem aen[sF](hb:Qd Wg C n B M WP K)(Ui:N<2147483648)
  (hE:∀ids gs a W l sl t q,gs[0]?=some a->W.output=yO.o0->W.os=yO.os0->(∃st sm,WgAt ty Wg W st sm)->K ids a (gw W l)->PayAt C n W->(∀x∈ids,∃v l',Has C x v W/\WP x v (gw W l')/\∀b∈l',B<=b)->Ji P (H_ Wg) N gs W t q->Fin (crowd gs W sl) t):∀μ m t,Iv P ty Wg C n B M WP K N μ m t->
  Fin m t\/(∃m' ops μ',stepT P m=(.next m',ops)/\Lt2 μ' μ/\Iv P ty Wg C n B M WP K N μ' m' (t++ops)):=by
 rintro μ m t h;obtain⟨gs,W,sl,j,D,ix,ow,tag,r,f0,d0,a,st,sm,l0,ids,rfl,ha,Rx,sU,xg,ry,En,KQ,Ho,hN,rfl⟩:=h;have hpd:=Rx.amR
 have go:(tag=.ret->∃m' gT,f0=m'+1/\(∀w₁,RL ty Wg W w₁->∃g' w' es,stepG P true a w₁=.go g' w' es/\DC0 w₁ w' es/\Goes P true (RL ty Wg) DC0 (ajL gT) m' g' w')/\K ids gT (gw W l0)/\d0=0)->
   ∃m' ops μ',stepT P (crowd gs W sl)=(.next m',ops)/\Lt2 μ' (phi N (Vc j D) tag+Ssum j D,f0+2*Fsum j D)/\Iv P ty Wg C n B M WP K N μ' m' (t++ops):=by
  intro aut;obtain⟨i,g,d,sl',hg,sW,rY⟩:=crowd_pick (P:=P) (w:=W) (sl:=sl) (ajT ha Rx sU) (agU ha Rx sU ry);rw[rY];have hl0:∀b∈l0,b∉([]:aA)/\b<W.heap.size/\b≠C/\b≠Wg:=λb I9=>⟨ax,(sU.gm.DD b I9).2,by have:=(sU.gm.DD b I9).1;have:=sU.gm.hC;omega,by have:=(sU.gm.DD b I9).1;have:=sU.gm.hW;omega⟩
  have Zg:QN ty Wg C n [] (λ_=>False) W (W.at d):=QN.at W d;have JO:=Rx.rely hb.k Zg sU.gm.hB ax hl0 (λ_=>False.elim);have XU:=sU.at hb.wp d;have MG:WgAt ty Wg (W.at d) st sm:=xg;cases i with
  |zero=>
   rw[ha]at hg;cases hg;have giv:Yy P ty Wg C n B M WP K N j r gs (W.at d) t D ix ow l0 ids d0 a st sm:=⟨hb,Ui,ha,XU,MG,KQ,Ho,hN⟩;by_cases hr:tag=.ret
   .obtain⟨m',gT,rfl,hs,hK,rfl⟩:=aut hr;subst hr;have Nq:r=0:=by cases Rx;rfl
    subst Nq;obtain⟨a',w',es,hgo,⟨rfl,rfl⟩,uO⟩:=hs (W.at d) Zg.live;have hK':K ids gT (gw (W.at d) l0):=hb.k _ _ _ _ (Zg.ro sU.gm.hB ax hl0 (λ_ _=>id)) hK;exact giv.idle (sl:=sl') (f0:=m'+1) hgo (.ret uO hK') ry En ag
   .rcases asA (sl:=sl') giv JO ry En sW with⟨h1,_⟩|h
    .exact absurd h1 hr
    .exact h
  |succ i=>
   have hi:i<j:=by have:=(dh.1 hg).1;rw[sU.size]at this;omega
   rcases bJ i sF.el with he|he
   .exact ajU (sl:=sl') ha JO XU MG ry En KQ Ho hN he hg sW
   .exact stepW (sl:=sl') hb Ui ha JO XU MG ry En KQ Ho hN ag he hi hg sW
 by_cases hr:tag=.ret
 .subst hr;cases Rx with
  |@ret m _ gT _ hG hK=>
   rcases Goes.cases hG with tK|⟨m',rfl,hs⟩
   .obtain⟨_,rfl⟩:=tK W (CS ty Wg W);obtain⟨hq,rfl,rfl⟩:=ry.fin_inv trivial;obtain⟨B₀,hB₀⟩:=Gi t
    have Ce:∀x∈ids,∃v l',Has C x v W/\WP x v (gw W l')/\∀b∈l',B<=b:=by
     intro x hx;obtain⟨i,he,hi,rfl⟩:=Ho x hx;obtain⟨g,hg,hs⟩:=sU.wk i he hi;rw[hq i hi]at hs;cases hs with
     |lib _ _ h3 h4=>exact⟨_,_,h4 ag,h3,λb hb=>(sU.gm.own i hi b hb).1⟩
    exact .inl (hE ids gs a W l0 sl t _ ha sU.out sU.os ⟨_,_,xg⟩ hK sU.pay Ce ⟨by rw[sU.size];omega,Z4 sU hq,⟨B₀,agV sU (En rfl) hB₀⟩,by have:=agW sU;rwa[show j=N by omega]at this⟩)
   .exact .inr (go λ_=>⟨m',gT,rfl,hs,hK,rfl⟩)
 .exact .inr (go λh=>absurd h hr)
theorem akA[sF](xE:∀m m' ops t,stepT P m=(.next m',ops)->Fin m' (t++ops)->Fin m t)(hb:Qd Wg C n B M WP K)(Ui:N<2147483648)
  (hE:∀ids gs a W l sl t q,gs[0]?=some a->W.output=yO.o0->W.os=yO.os0->(∃st sm,WgAt ty Wg W st sm)->K ids a (gw W l)->PayAt C n W->(∀x∈ids,∃v l',Has C x v W/\WP x v (gw W l')/\∀b∈l',B<=b)->Ji P (H_ Wg) N gs W t q->Fin (crowd gs W sl) t):∀μ m t,Iv P ty Wg C n B M WP K N μ m t->Fin m t:=by
 intro μ;refine(Prod.lex Nat.lt_wfRel Nat.lt_wfRel).wf.induction (C:=λμ=>∀m t,Iv P ty Wg C n B M WP K N μ m t->Fin m t) μ λμ ih m t h=>?_
 rcases aen hb Ui hE μ m t h with h1|⟨m',ops,μ',h1,h2,h3⟩
 .exact h1
 .exact xE _ _ _ _ h1 (ih μ' h2 m' _ h3)
theorem Zy(xE:∀m m' ops t,stepT P m=(.next m',ops)->Fin m' (t++ops)->Fin m t){gs:dE}{a:aG}{W:ah}{sl:Option (Nat×Nat)}{q:Nat->Nat}{e:Nat}(h0:gs[0]?=some a)(hB:Ji P (H_ Wg) e gs W t q)
  (hold:∀b,rq.old b->b<B/\b≠C) (hW:Wg<B) (hC:C<B) (hCW:C≠Wg) (hBs:B<=W.heap.size) (xg:WgAt ty Wg W 0 0) (aqz:PayAt C n W) (hsp:Sp P ty Wg C n B M WP K N [] a (gw W []))
  (hb:Qd Wg C n B M WP K) (Ui:e+N<2147483648) (ho:W.output=yO.o0) (hos:W.os=yO.os0)
  (hE:∀ids gs a W l sl t q,gs[0]?=some a->W.output=yO.o0->W.os=yO.os0->(∃st sm,WgAt ty Wg W st sm)->K ids a (gw W l)->PayAt C n W->(∀x∈ids,∃v l',Has C x v W/\WP x v (gw W l')/\∀b∈l',B<=b)->Ji P (H_ Wg) (e+N) gs W t q->Fin (crowd gs W sl) t):Fin (crowd gs W sl) t:=by
 letI:sF:=⟨e,t.size⟩;obtain⟨Bp,hP⟩:=hB.past;obtain⟨μ,hI⟩:=Yz (sl:=sl) h0 hB.size hB.old hP hB.late rfl hold hW hC hCW hBs xg aqz hsp ho hos;exact akA xE hb Ui hE μ _ _ hI
omit [Payload][rq][yO]in
theorem akq{a:aG}{W:ah}{Shun:Loc->Prop}(h0:∀op∈t,op.g=0)(hS:∀op∈t,∀x,op.act.touch?=some x->¬Shun x.loc)(uI:∀op∈t,∀x,op.act.touch?=some x->∀ad,x.loc=.cell ad->ad.block<W.heap.size)(hd:Deaf t 0=0):Ji P Shun 0 #[a] W t (λ_=>0):=by
 refine⟨rfl,⟨λi g hi hg=>?_,λi hi=>?_⟩,?_,⟨λi op x hi hx hs=>absurd hs (hS op (fZ hi) x hx),λop uT=>fQ (h0 op uT),λop uT x hx=>⟨uI op uT x hx,λh=>absurd (h0 op uT) h⟩⟩⟩
 .have:=(dh.1 hg).1;simp at this;omega
 .exact Deaf_absent λa op ha e=>by have:=h0 op (fZ ha);simp at hi;omega
 .obtain⟨B₀,hB₀⟩:=Gi t;refine⟨B₀,λsaid=>?_,λi x hx _=>.inl ?_,λi g hg hne _=>?_,hd,hB₀⟩
  .have:=noRace_append (said:=said) (t:=#[]) (u:=t) (g:=0) (by rintro⟨i,j,_,⟨a,b,ha,_⟩,_⟩;simp[Trace.act?]at ha) h0 (λi a ha=>by simp[touchAt,Trace.act?]at ha);exact ayh
  .obtain⟨op,ho,_⟩:=touch_of hx;have:=knows_own ho;rwa[h0 op (fZ ho)]at this
  .obtain⟨op,ho,rfl⟩:=dL.1 hg;exact absurd (h0 op (fZ ho)) hne
omit [Payload][rq][yO]in
theorem Ji.more{Shun Shun':Loc->Prop}{gs:dE}{W:ah}{q:Nat->Nat}{e:Nat}(h:Ji P Shun e gs W t q)(h1:∀l,Shun l->Shun' l)(h2:∀l,Shun' l->Shun l\/∃a:Addr,l=.cell a/\W.heap.size<=a.block):Ji P Shun' e gs W t q:=by
 obtain⟨h3,h4,⟨B,hP⟩,hT⟩:=h;refine⟨h3,h4,⟨B,hP.clean,λi x hx hm=>(hP.known i x hx hm).imp id λy=>⟨h1 _ y.1,y.2⟩,hP.over,hP.hears,hP.seen⟩,⟨λi op x hi hx hs=>?_,hT.gs,hT.low⟩⟩;rcases h2 _ hs with h|⟨a,ha,hl⟩
 .exact hT.quiet i op x hi hx h
 .have:=(hT.low op (fZ hi) x hx).1 a ha;omega
omit [Payload][rq][yO]in
theorem afH{Post:ai->ah->Prop}{Shun:Loc->Prop}{gs:dE}{a:aG}{W:ah}{sl:Option (Nat×Nat)}{q:Nat->Nat}{e:Nat}(h0:gs[0]?=some a)(hB:Ji P Shun e gs W t q)
  (hE:r_ P (DM Shun) (λa w=>a.status=.running/\∃es,(∀e∈es,EvM Shun e)/\∀d,∃v,stepG P true a (w.at d)=.ended (.done v) (w.at d) es/\Post v (w.at d)) a W):Ok P Post (crowd gs W sl) t:=
 late (Fin:=Ok P Post) Ir (λ_ _ _ h=>h) (λ_ _ w _ _ _ h0 uw hB=>let⟨sW,es,h1,h2⟩:=uw w.drawn;ap3 h0 es h1 sW h2 hB) hE W.drawn gs sl t q h0 hB
end
end Go.Lf
namespace Go.Lf
open Go.Conc
section
variable {P:aN}{F:aU->Bool}{X:Nat->Prop}{Y:Nat->aV}{D:Nat->ah->aH->Prop}{Stop:aG->ah->Prop}{Φ:aG->ah->Prop}{f:aU}{k:b_}{cs:aP}
def uA(P:aN)(X:Nat->Prop)(Y:Nat->aV)(D:Nat->ah->aH->Prop)(Stop:aG->ah->Prop)(f:aU)(cs:aP)(k:b_)(a:Act)(v:ah):Prop:=
 ∀w,qQ X Y w v->r_ P D Stop (G ((base f).at a k) cs) w
theorem acs(hF:xY P F)(hD:uU X D){c:Code}(hc:Hz P F c=true){a:Act}{v:ah}(ha:a.defers=[])(hf:∃fn,P.funcs[f]?=some fn)(h:∀τ d,c.wp P (λe a' v'=>e=.normal/\a'.defers=[]/\uA P X Y D Stop f cs k a' v') a {v with tape:=τ,drawn:=d}):uA P X Y D Stop f cs (.code c::k) a v:=
 λ_ hs=>atI hF hD hc h (λ_ _ _ x=>⟨x.1,x.2.1⟩) ha hf hs λ_ _ w' hq xU=>hq.2.2 w' xU
theorem Jt(hD:uU X D){a:Act}{v:ah}{k k':b_}(h:∀w,stepG P true (G ((base f).at a k) cs) w=.go (G ((base f).at a k') cs) w #[])(hr:uA P X Y D Stop f cs k' a v):uA P X Y D Stop f cs k a v:=
 λw hs=>.next rfl λd=>⟨_,_,_,h (w.at d),hD.nil (az _),hr _ (hs.at d)⟩
theorem xM(hD:uU X D){c d:Code}{a:Act}{v:ah}(ha:a.defers=[])(hr:uA P X Y D Stop f cs (.code c::.code d::k) a v):uA P X Y D Stop f cs (.code (.seq c d)::k) a v:=by refine Jt hD (λw=>?_) hr;obtain⟨t,d⟩:=a;subst ha;rfl
theorem aeo(hF:xY P F)(hD:uU X D){c d:Code}(hc:Hz P F c=true){a:Act}{v:ah}(ha:a.defers=[])(hf:∃fn,P.funcs[f]?=some fn)(h:∀τ d',c.wp P (λe a' v'=>e=.normal/\a'.defers=[]/\uA P X Y D Stop f cs (.code d::k) a' v') a {v with tape:=τ,drawn:=d'}):uA P X Y D Stop f cs (.code (.seq c d)::k) a v:=
 xM hD ha (acs hF hD hc ha hf h)
theorem rf(hF:xY P F)(hD:uU X D){c d:Code}(hc:Hz P F c=true){a:Act}{v:ah}(ha:a.defers=[])(hf:∃fn,P.funcs[f]?=some fn)(h:∀R:Act->ah->Prop,(∀a' v',uA P X Y D Stop f cs (.code d::k) a' v'->R a' v')->∀τ d',c.wp P (λe a' v'=>e=.normal/\a'.defers=[]/\R a' v') a {v with tape:=τ,drawn:=d'}):uA P X Y D Stop f cs (.code (.seq c d)::k) a v:=
 aeo hF hD hc ha hf (h _ λ_ _ x=>x)
theorem OX{w v:ah}{a:Addr}{u:ai}(h:xZ X Y w v)(hc:v.cell? a=some u):w.cell? a=some u:=by obtain⟨h1,h2,_⟩:=h.agC hc;rw[h.cell h1 h2];exact hc
