import Derived.Test.YtnbflnamlpodcaaGreatDoorDrX
import Derived.RangeFuncRecord
set_option maxHeartbeats 1000000
namespace Go.Lf
open Go.Conc
structure Ext where
 k:List Item
 ro:Option Nat
 ds:List Deferred
def yV(E:Ext)(f:Frame):Frame:={f with todo:=f.todo++E.k,roundOf:=E.ro,defers:=E.ds}
theorem Bo{f:Frame}(h1:f.roundOf=none)(h2:f.defers=[]):yV ⟨[],none,[]⟩ f=f:=by obtain⟨fn,tmps,todo,defers,mode,kind,round⟩:=f;dsimp only at h1 h2;subst h1 h2;simp[yV]
def Ends(t:List Item):Prop:=t=[]\/∃k,t=.code .ret::k
section
variable {P:Program}{F:FuncId->Bool}{X:Nat->Prop}{Y:Nat->Option Obj}{D:Nat->World->Array Event->Prop}{Stop:Goroutine->World->Prop}
theorem am8(E:Ext)(f:Frame):(yV E f).eval=f.eval:=by
 funext x
 cases x<;>rfl
theorem Ve{fr:Frame}{o:Oper}{cs:List Frame}{dy:Option Dying}{w:World}(h:∀c,o.op≠.defer c)(ho:fr.oper?=some o):stepG.oper P true fr cs dy w=stepG.apply P true fr cs dy (execOp fr.eval o) w:=by
 unfold stepG.oper;rw[ho];dsimp only;split
 .rename_i hx;exact absurd hx (h _)
 .rfl
inductive ao3 (P:Program) (F:FuncId->Bool) (f:Frame) (cs:List Frame) (w w':World) (es:Array Event) (g':Goroutine):Prop
 |here {f':Frame}:g'=G f' cs->I9 P F f'->(f'.mode=.run\/f'.mode=.returning)->(∀E zU,(Ends f.todo->E=⟨[],none,[]⟩)->stepG P true (G (yV E f) zU) w=.go (G (yV E f') zU) w' es)->ao3 P F f cs w w' es g'
 |call {e:Frame}:g'=G e (f::cs)->I9 P F e->e.mode=.run->(f.todo≠[]/\∀u,I9 P F (f.finish u))->(∀E zU,stepG P true (G (yV E f) zU) w=.go (G e (yV E f::zU)) w' es)->ao3 P F f cs w w' es g'
def abT(P:Program)(F:FuncId->Bool)(X:Nat->Prop)(Y:Nat->Option Obj)(f:Frame)(cs:List Frame)(w v:World):Prop:=
 (∃o v' es,stepG P true (G f cs) v=.ended o v' es)\/(∃ch v' es,stepG P true (G f cs) v=.go (G {f with mode:=.panicking ch} cs) v' es)\/
 ∃g' v' es w',stepG P true (G f cs) v=.go g' v' es/\Tp P (G f cs) v g' v' es/\xE X Y w' v'/\w.heap.size<=w'.heap.size/\NW X w' es/\ao3 P F f cs w w' es g'
theorem Qm{f f':Frame}{cs:List Frame}{w v:World}(hs:xE X Y w v)(h:∀E zU u,(Ends f.todo->E=⟨[],none,[]⟩)->stepG P true (G (yV E f) zU) u=.go (G (yV E f') zU) u #[])(hT:I9 P F f')(hm:f'.mode=.run\/f'.mode=.returning)(h1:f.roundOf=none:=by rfl)(h2:f.defers=[]:=by rfl):abT P F X Y f cs w v:=by
 have key:∀u,stepG P true (G f cs) u=.go (G f' cs) u #[]:=λu=>by have:=h ⟨[],none,[]⟩ cs u (λ_=>rfl);rwa[Bo h1 h2,Bo hT.round hT.defers]at this
 exact axl
theorem ao4(hF:xB P F){f:Frame}{cs:List Frame}{w v:World}(hT:I9 P F f)(hm:f.mode=.run)(hs:xE X Y w v):abT P F X Y f cs w v:=by
 obtain⟨fn,tmps,todo,defers,mode,kind,round⟩:=f;obtain⟨⟨Gu,Nr⟩,hk,hd,hr,S,ht,hS⟩:=hT;dsimp only at Nr hk hd hr ht hS hm;subst hk hd hr hm;have mk:∀{acz:List Item}{ajJ:FrameMode},(∀it∈acz,Et P F S it)->I9 P F ⟨fn,tmps,acz,[],ajJ,.normal,none⟩:=λh=>⟨⟨Gu,Nr⟩,rfl,rfl,rfl,S,h,hS⟩
 cases todo with
 |nil=>exact Qm (f':=⟨fn,tmps,[],[],.returning,.normal,none⟩) hs (λK zU u hK=>by rw[hK (.inl rfl)];rfl) (mk ai) (.inr rfl)
 |cons it k=>
  have Fj:=ht it ai;have hk:∀x∈k,Et P F S x:=λx hx=>ht x jB
  have two:∀{a:Item},Et P F S a->∀x∈a::k,Et P F S x:=λha x hx=>by
   rcases dA.1 hx with rfl|hx
   .exact ha
   .exact hk x hx
  cases it with
  |code c=>
   cases c with
   |skip=>exact Qm (f':=⟨fn,tmps,k,[],.run,.normal,none⟩) hs (λK zU u _=>rfl) (mk hk) (.inl rfl)
   |ret=>exact Qm (f':=⟨fn,tmps,.code .ret::k,[],.returning,.normal,none⟩) hs (λK zU u hK=>by rw[hK (.inr ⟨_,rfl⟩)];simp only[G,yV,stepG,stepG.exec,dD];rfl) (mk ht) (.inr rfl)
   |seq a b=>
    have hab:uq P F S a=true/\uq P F S b=true:=oK
    exact Qm (f':=⟨fn,tmps,.code a::.code b::k,[],.run,.normal,none⟩) hs (λK zU u _=>rfl) (mk λx hx=>by
     rcases dA.1 hx with rfl|hx
     .exact hab.1
     .exact two (a:=.code b) hab.2 x hx) (.inl rfl)
   |cond c a b=>
    have hab:uq P F S a=true/\uq P F S b=true:=oK;cases he:(⟨fn,tmps,.code (.cond c a b)::k,[],.run,.normal,none⟩:Frame).eval c with
    |bool t=>
     refine Qm (f':=⟨fn,tmps,.code (if t then a else b)::k,[],.run,.normal,none⟩) hs (λK zU u _=>?_) (mk (two (a:=.code (if t then a else b)) (by cases t<;>simp[Et,hab]))) (.inl rfl);have Np:(yV K ⟨fn,tmps,.code (.cond c a b)::k,[],.run,.normal,none⟩).eval c=.bool t:=by rw[am8];exact he
     simp only[yV,aV]at Np;simp only[G,yV,stepG,stepG.exec,aV,Np]
    |_=>exact .inl ⟨_,_,_,avv⟩
   |block id c=>exact Qm (f':=⟨fn,tmps,.code c::.inBlock id::k,[],.run,.normal,none⟩) hs (λK zU u _=>rfl) (mk λx hx=>by
    rcases dA.1 hx with rfl|hx
    .exact Fj
    .exact two (a:=.inBlock id) trivial x hx) (.inl rfl)
   |loop c=>exact Qm (f':=⟨fn,tmps,.code c::.inLoop c::k,[],.run,.normal,none⟩) hs (λK zU u _=>rfl) (mk λx hx=>by
    rcases dA.1 hx with rfl|hx
    .exact Fj
    .exact two (a:=.inLoop c) Fj x hx) (.inl rfl)
   |exit id=>
    cases he:exitTo id k with
    |none=>exact .inl ⟨_,_,_,avw⟩
    |some k'=>exact Qm (f':=⟨fn,tmps,k',[],.run,.normal,none⟩) hs (λK zU u _=>by simp only[G,yV,stepG,stepG.exec,aV,Hy he,Option.elim]) (mk λx hx=>hk x (Hz he x hx)) (.inl rfl)
   |region id ops draw=>
    have ho:ops.all (E_ P F S)=true:=Fj;cases draw with
    |false=>exact Qm (f':=⟨fn,tmps,.inRegion ops (List.range ops.size)::k,[],.run,.normal,none⟩) hs (λK zU u _=>rfl) (mk (two (a:=.inRegion ops _) ho)) (.inl rfl)
    |true=>
     have hc:∀u:World,(choose (.order fn id)).run P u=.ok (u.tape u.drawn (.order fn id)) {u with drawn:=u.drawn+1}:=λu=>rfl
     have et:w.tape w.drawn (.order fn id)=v.tape v.drawn (.order fn id):=avs
     refine .inr (.inr ⟨_,{v with drawn:=v.drawn+1},#[],{w with drawn:=w.drawn+1},avx,⟨rfl,Nat.le_succ _,λτ hτ=>avy⟩,hs.draw,ak _,λe he=>mW,
      .here (f':=⟨fn,tmps,.inRegion ops (Region.schedule (P.follows .mixedOrders) ops (v.tape v.drawn (.order fn id)))::k,[],.run,.normal,none⟩) rfl (mk (two (a:=.inRegion ops _) ho)) (.inl rfl) λK zU _=>?_⟩)
     simp only[G,yV,stepG,stepG.exec,aV,iI,bu,aU,hc,et]
   |_=>cases Fj
  |inBlock id=>exact Qm (f':=⟨fn,tmps,k,[],.run,.normal,none⟩) hs (λK zU u _=>rfl) (mk hk) (.inl rfl)
  |inLoop c=>exact Qm (f':=⟨fn,tmps,.code c::.inLoop c::k,[],.run,.normal,none⟩) hs (λK zU u _=>rfl) (mk λx hx=>by
     rcases dA.1 hx with rfl|hx
     .exact Fj
     .exact two (a:=.inLoop c) Fj x hx) (.inl rfl)
  |inRegion ops is=>
   cases is with
   |nil=>exact Qm (f':=⟨fn,tmps,k,[],.run,.normal,none⟩) hs (λK zU u _=>rfl) (mk hk) (.inl rfl)
   |cons i rest=>
    have ho:ops.all (E_ P F S)=true:=Fj;cases hw:((ops[i]?).map (Region.wanted · (yielded ops tmps))).getD false with
    |false=>
     refine Qm (f':=(⟨fn,tmps,.inRegion ops (i::rest)::k,[],.run,.normal,none⟩:Frame).finish undef) hs (λK zU u _=>?_) ⟨⟨Gu,Nr⟩,rfl,rfl,rfl,S,two (a:=.inRegion ops _) ho,hS.un _⟩ (.inl rfl);simp only[G,yV,stepG,stepG.exec,aV,hw,bu,aU,Frame.finish]
    |true=>
     cases hoi:ops[i]? with
     |none=>rw[hoi]at hw;cases hw
     |some o=>
      have DX:E_ P F S o=true:=kY.1 ho o (eG hoi)
      have eA:∀K zU u,stepG P true (G (yV K ⟨fn,tmps,.inRegion ops (i::rest)::k,[],.run,.normal,none⟩) zU) u=
        stepG.apply P true (yV K ⟨fn,tmps,.inRegion ops (i::rest)::k,[],.run,.normal,none⟩) zU none (execOp (⟨fn,tmps,.inRegion ops (i::rest)::k,[],.run,.normal,none⟩:Frame).eval o) u:=λK zU u=>by
       rw[<-am8 K];rw[hoi]at hw;simp only[G,yV,stepG,stepG.exec,aV,hoi];rw[aj hw];exact Ve (λc h=>by unfold E_ at DX;rw[h,fG]at DX;cases DX.2) (by simp only[Frame.oper?,hoi])
      obtain⟨vP,hlf⟩:=YY hF (ρ:=(⟨fn,tmps,.inRegion ops (i::rest)::k,[],.run,.normal,none⟩:Frame).eval) (λ_=>rfl) (λ_=>rfl) hS DX;have Yz:∀{x:FuncId×Nat}{v v':World}{es rJ:Array Event}{n:Next},Rh S x o.op=true->(execOp (⟨fn,tmps,.inRegion ops (i::rest)::k,[],.run,.normal,none⟩:Frame).eval o).runT P v es=(.ok n v',rJ)->∃u,n=.value u/\(u=undef\/∃fs cs,u=.func (.func x.1) fs cs/\fs.size+cs.size=x.2):=λh hr=>afc (λ_=>rfl) hS h hr
      have fin:∀u,(⟨fn,tmps,.inRegion ops (i::rest)::k,[],.run,.normal,none⟩:Frame).finish u=⟨fn,agD o.dst tmps u,.inRegion ops rest::k,[],.run,.normal,none⟩:=λu=>by simp only[Frame.finish,hoi,fB];rfl
      generalize execOp (⟨fn,tmps,.inRegion ops (i::rest)::k,[],.run,.normal,none⟩:Frame).eval o=sem at eA vP hlf Yz;have eA0:=eA ⟨[],none,[]⟩ cs v;rw[Bo rfl rfl]at eA0;cases sJ:sem.runT P v #[]with
      |mk r es=>
       cases r with
       |halt h v'=>
        have hh:=vP.RN w v #[] h v' es hs sJ;cases h with
        |panic u=>
         exact .inr (.inl ⟨_,_,_,lI⟩)
        |stuck s=>exact .inl ⟨_,_,_,lI⟩
        |unsupported u=>
         cases u with
         |initOrder b=>exact hh.elim
         |_=>exact .inl ⟨_,_,_,lI⟩
        |_=>exact hh.elim
       |ok x v'=>
        obtain⟨w',EE,xn,hsz,hev⟩:=vP.VQ w v #[] x v' es hs sJ;obtain⟨TD,ht2,ht3⟩:=vP.tape v #[] x v' es hs.nv sJ
        have eAτ:∀τ:Nat->Question->Nat,stepG P true (G ⟨fn,tmps,.inRegion ops (i::rest)::k,[],.run,.normal,none⟩ cs) {v with tape:=τ}=stepG.apply P true ⟨fn,tmps,.inRegion ops (i::rest)::k,[],.run,.normal,none⟩ cs none sem {v with tape:=τ}:=λτ=>by have:=eA ⟨[],none,[]⟩ cs {v with tape:=τ};rwa[Bo rfl rfl]at this
        have Z4:w.heap.size<=w'.heap.size:=auU;have aeq:NW X w' (seen P fn es):=λe he=>(hev e (mem_seen he)).resolve_left ai
        rcases uD sem hlf v #[] x v' es sJ with⟨u,rfl⟩|rfl|⟨f1,atO,hf1,has,rfl⟩
        .refine .inr (.inr ⟨_,_,seen P fn es,w',lJ,⟨TD,ht2,λτ hτ=>lH⟩,xn,Z4,aeq,
          .here (f':=(⟨fn,tmps,.inRegion ops (i::rest)::k,[],.run,.normal,none⟩:Frame).finish u) rfl avV (.inl rfl) λK zU _=>?_⟩)
         exact awI
        .refine .inr (.inr ⟨_,_,seen P fn es,w',lJ,⟨TD,ht2,λτ hτ=>lH⟩,xn,Z4,aeq,
          .here (f':=(⟨fn,tmps,.inRegion ops (i::rest)::k,[],.run,.normal,none⟩:Frame).finish undef) rfl avT (.inl rfl) λK zU _=>?_⟩)
         exact awI
        .obtain⟨fn1,c1,S1,g1,g2,g3,g4,g5⟩:=hf1
         refine .inr (.inr ⟨_,_,seen P fn es,w',lJ,⟨TD,ht2,λτ hτ=>lH⟩,xn,Z4,aeq,
          .call (e:=Frame.enter P f1 atO .normal) rfl ⟨⟨fn1,g1⟩,rfl,rfl,rfl,S1,λx hx=>?_,F8.enter has g5⟩ rfl ⟨ai,λu=>avU⟩ λK zU=>?_⟩)
         .exact axe
         .rw[eA];simp only[stepG.apply,aF,EE,GStep.after];rfl
  |_=>cases Fj
def abU(E:Ext)(cs:List Frame):List Frame->List Frame
 |[]=>cs
 |[b]=>yV E b::cs
 |c::d::r=>c::abU E cs (d::r)
def X8(E:Ext)(cs:List Frame)(f:Frame)(r:List Frame):Goroutine:=
 match r with
 |[]=>G (yV E f) cs
 |c::r=>G f (abU E cs (c::r))
theorem ams{c:Frame}(hT:I9 P F c)(hne:c.todo≠[])(E:Ext)(v:Value):(yV E c).finish v=yV E (c.finish v):=by
 obtain⟨fn,tmps,todo,defers,mode,kind,round⟩:=c;obtain⟨h1,hk,hd,hr,S,ht,_⟩:=hT;dsimp only at h1 hk hd hr ht hne;subst hk hd hr;cases todo with
 |nil=>exact absurd rfl hne
 |cons it k=>
  have Fj:=ht it ai;cases it with
  |inRegion ops is=>
   cases is with
   |nil=>rfl
   |cons i rest=>rfl
  |code c=>rfl
  |inBlock id=>rfl
  |inLoop c=>rfl
  |_=>cases Fj
theorem ajM{f:Frame}(hT:I9 P F f)(hm:f.mode=.run)(ht:Ends f.todo)(cs:List Frame)(u:World):stepG P true (G f cs) u=.go (G {f with mode:=.returning} cs) u #[]:=by obtain⟨fn,tmps,todo,defers,mode,kind,round⟩:=f;have hk:=hT.kind;have hd:=hT.defers;have hr:=hT.round;dsimp only at hk hd hr ht hm;subst hk hd hr hm;rcases ht with rfl|⟨k,rfl⟩<;>rfl
variable (P F X Y D Stop)in
structure SgD(E:Ext)(cs:List Frame)(fn:FuncId)(Q:Exit->Act->World->Prop)(s:Sg):Prop where
 tf:I9 P F s.f
 mode:s.f.mode=.run\/s.f.mode=.returning
 stack:Stack P F s.r
 VQ:qL X Y s.w s.u
 law:∀τ:Nat->Question->Nat,(∀p,p<s.u.drawn->τ p=s.u.tape p)->∃n a' v',F7 P n s.f (s.r++[f0]) {s.u with tape:=τ} ((base fn).at a' []) [f0] v'/\Q .normal a' v'
 no:¬rV P D Stop (X8 E cs s.f s.r) s.w
theorem ZA{K:Ext}{cs:List Frame}{fn:FuncId}{Q:Exit->Act->World->Prop}(hK:∀a' v' w',Q .normal a' v'->qL X Y w' v'->rV P D Stop (G (yV K ((base fn).at a' [])) cs) w'){s:Sg}(hi:SgD P F X Y D Stop K cs fn Q s){τ:Nat->Question->Nat}{a':Act}{v':World}
  (h:F7 P 0 s.f (s.r++[f0]) {s.u with tape:=τ} ((base fn).at a' []) [f0] v') (hq:Q .normal a' v'):False:=by
 obtain⟨h1,h2,h3⟩:=zg h
 have hr:s.r=[]:=by exact awX
 apply hi.no;have:X8 K cs s.f s.r=G (yV K ((base fn).at a' [])) cs:=auV;exact axW
theorem Vf(hF:xB P F)(hD:vw X D){K:Ext}{cs:List Frame}{fn:FuncId}{Q:Exit->Act->World->Prop}(hK:∀a' v' w',Q .normal a' v'->qL X Y w' v'->rV P D Stop (G (yV K ((base fn).at a' [])) cs) w'){s:Sg}
  (hi:SgD P F X Y D Stop K cs fn Q s):∃s',SgD P F X Y D Stop K cs fn Q s'/\CZ P s s':=by
 have uw:(X8 K cs s.f s.r).status=.running:=by cases s.r<;>rfl
 obtain⟨d,hd⟩:∃d,∀g' w' es,stepG P true (X8 K cs s.f s.r) (s.w.at d)=.go g' w' es->D s.w.heap.size w' es->¬rV P D Stop g' w':=by
  refine ja λO4=>hi.no (.next uw λd=>?_)
  exact aw_
 let τ₁:Nat->Question->Nat:=λp q=>if p<s.u.drawn then s.u.tape p q else s.w.tape (d+(p-s.u.drawn)) q
 have hs:xE X Y (s.w.at d) {s.u with tape:=τ₁}:=hi.VQ.re d s.u.drawn τ₁ λi q=>by
  show s.w.tape (d+i) q=if s.u.drawn+i<s.u.drawn then _ else _
  exact aw2
 have hag:∀p,p<s.u.drawn->τ₁ p=s.u.tape p:=λp hp=>by
  funext q
  exact awY
 obtain⟨n,a',v',hn,hq⟩:=hi.law τ₁ hag;cases n with
 |zero=>exact(ZA hK hi hn hq).elim
 |succ n=>
  have mk:∀(f':Frame)(r':List Frame)(u₂ w₂:World)(es:Array Event),I9 P F f'->(f'.mode=.run\/f'.mode=.returning)->Stack P F r'->xE X Y w₂ u₂->Tp P (G s.f (s.r++[f0])) {s.u with tape:=τ₁} (G f' (r'++[f0])) u₂ es->
    stepG P true (X8 K cs s.f s.r) (s.w.at d)=.go (X8 K cs f' r') w₂ es->s.w.heap.size<=w₂.heap.size->NW X w₂ es->∃s',SgD P F X Y D Stop K cs fn Q s'/\CZ P s s':=λf' r' u₂ w₂ es h1 h2 h3 h4 h5 h6 h8 h7=>by
   obtain⟨t1,t2,t3⟩:=h5;dsimp only at t1 t2 t3;refine⟨⟨f',r',u₂,w₂⟩,⟨h1,h2,h3,h4.t,λτ hτ=>?_,hd _ _ _ h6 (hD _ _ _ h8 h7)⟩,t2,λp hp=>auM,λτ hτ=>⟨es,t3 τ λp EJ CJ=>auR⟩⟩;dsimp only at hτ;obtain⟨n,a',v',hn,hq⟩:=hi.law τ λp hp=>auT
   cases n with
   |zero=>exact(ZA hK hi hn hq).elim
   |succ n=>exact⟨n,a',v',wV (t3 τ λp _ CJ=>auS) hn,hq⟩
  rcases hi.mode with hm|hm
  .by_cases VJ:s.r=[]/\Ends s.f.todo
   .obtain⟨hr,ht⟩:=VJ;rw[hr]at hn;have e:=ajM hi.tf hm ht ([]++[f0]) {s.u with tape:=τ₁};have h2:=wV e hn;cases n with
    |zero=>
     obtain⟨h3,_⟩:=zg h2;have:=aP Frame.mode h3;cases this
    |succ n=>
     rcases QL (c:=f0) (r:=[]) (f:={s.f with mode:=.returning}) (F:=F) ⟨hi.tf.fn,hi.tf.kind,hi.tf.defers,hi.tf.round,hi.tf.todo⟩ rfl hs with⟨o,KQ,rJ,he⟩|⟨y,KQ,rJ,w',he,_⟩
     .exact(xX he h2).elim
     .exact absurd (wV he h2) (Ul n _ _ v')
   .rcases ao4 (cs:=s.r++[f0]) hF hi.tf hm hs with⟨o,KQ,rJ,he⟩|⟨ch,KQ,rJ,he⟩|⟨g',KQ,rJ,w',he,htp,xn,hsz,hev,ahW⟩
    .exact awy
    .exact ayd
    .cases ahW with
     |@here f' hg ZV VB hB=>
      subst hg;refine mk f' s.r KQ w' rJ ZV VB hi.stack xn htp ?_ hsz hev;cases hr:s.r with
      |nil=>exact hB K cs λht=>absurd ⟨hr,ht⟩ VJ
      |cons c r=>
       have:=hB ⟨[],none,[]⟩ (abU K cs (c::r)) (λ_=>rfl);rw[Bo hi.tf.round hi.tf.defers,Bo ZV.round ZV.defers]at this;exact this
     |@call e hg hTe hme hne hB=>
      subst hg;refine mk e (s.f::s.r) KQ w' rJ hTe (.inl hme) ⟨⟨hi.tf,hm,hne.1,PR hi.tf hm hne⟩,hi.stack⟩ xn htp ?_ hsz hev;cases hr:s.r with
      |nil=>exact hB K cs
      |cons c r=>
       have:=hB ⟨[],none,[]⟩ (abU K cs (c::r));rw[Bo hi.tf.round hi.tf.defers]at this;exact this
  .cases hr:s.r with
   |nil=>
    rw[hr]at hn;rcases QL (c:=f0) (r:=[]) (F:=F) hi.tf hm hs with⟨o,KQ,rJ,he⟩|⟨y,KQ,rJ,w',he,_⟩
    .exact awy
    .exact absurd (wV he hn) (Ul n _ _ v')
   |cons c r=>
    have hS:=hi.stack;rw[hr]at hn hS mk;rcases QL (c:=c) (r:=r++[f0]) (F:=F) hi.tf hm hs with⟨o,KQ,rJ,he⟩|⟨y,KQ,rJ,w',he,htp,xn,hsz,hev,hB⟩
    .exact awy
    .obtain⟨hTc,hmc,Ez⟩:=hS.1.2.2.2 y;refine mk (c.finish y) r KQ w' rJ hTc (.inl hmc) hS.2 xn htp ?_ hsz hev;cases r with
     |nil=>
      have:=hB (yV K c) cs;rw[ams hS.1.1 hS.1.2.2.1 K]at this;exact this
     |cons d r=>exact hB c (abU K cs (d::r))
theorem ar7(hF:xB P F)(hD:vw X D){c:Code}(hc:GR P F c=true){Q:Exit->Act->World->Prop}{a:Act}{v:World}(h:∀τ d,c.wp P Q a {v with tape:=τ,drawn:=d})(hQ:∀e a' v',Q e a' v'->e=.normal/\a'.defers=[])(ha:a.defers=[])
  {fn:FuncId} (hf:∃Gu,P.funcs[fn]?=some Gu) {w:World} (hs:qL X Y w v) {K:Ext} {cs:List Frame} (hK:∀a' v' w',Q .normal a' v'->qL X Y w' v'->rV P D Stop (G (yV K ((base fn).at a' [])) cs) w'):rV P D Stop (G (yV K ((base fn).at a [.code c])) cs) w:=by
 refine ja λO4=>?_
 have start:SgD P F X Y D Stop K cs fn Q ⟨(base fn).at a [.code c],[],{v with drawn:=0},w⟩:=by exact axk
 let nx:{s//SgD P F X Y D Stop K cs fn Q s}->{s//SgD P F X Y D Stop K cs fn Q s}:=λs=>⟨(Vf hF hD hK s.2).choose,(Vf hF hD hK s.2).choose_spec.1⟩
 have nxs:∀s,CZ P s.1 (nx s).1:=λs=>(Vf hF hD hK s.2).choose_spec.2
 let q:Nat->{s//SgD P F X Y D Stop K cs fn Q s}:=λn=>Nat.rec ⟨_,start⟩ (λ_ s=>nx s) n
 have qs:∀n,CZ P (q n).1 (q (n+1)).1:=λn=>nxs (q n)
 have mono:∀n m,n<=m->(q n).1.u.drawn<=(q m).1.u.drawn/\∀p,p<(q n).1.u.drawn->(q m).1.u.tape p=(q n).1.u.tape p:=by
  intro n m Yt
  induction m with
  |zero=>
   obtain rfl:n=0:=ae;exact⟨ak _,λ_ _=>rfl⟩
  |succ m ih=>
   rcases aQ n (m+1)with qE|VF
   .exact awZ
   .exact aw5
 have dec:∀p,Decidable (∃n,p<(q n).1.u.drawn):=λp=>Classical.propDecidable _
 let τ:Nat->Question->Nat:=λp=>if h:∃n,p<(q n).1.u.drawn then(q h.choose).1.u.tape p else λ_=>0
 have agree:∀n p,p<(q n).1.u.drawn->τ p=(q n).1.u.tape p:=λn p hp=>by
  have hex:∃n,p<(q n).1.u.drawn:=⟨n,hp⟩;show(if h:∃n,p<(q n).1.u.drawn then(q h.choose).1.u.tape p else λ_=>0)=_;rw[j_ hex];have hc:=hex.choose_spec;rcases at1 n hex.choose with hle|hle
  .exact(mono n _ hle).2 p hp
  .exact aw9
 have never:∀(m i:Nat)(a':Act)(v':World),F7 P m (q i).1.f ((q i).1.r++[f0]) {(q i).1.u with tape:=τ} ((base fn).at a' []) [f0] v'->Q .normal a' v'->False:=by
  intro m
  induction m with
  |zero=>exact λi a' v' h hq=>ZA hK (q i).2 h hq
  |succ m ih=>
   intro i a' v' h hq;obtain⟨es,he⟩:=(qs i).2.2 τ λp _ hp=>agree (i+1) p hp
   exact ih (i+1) a' v' (wV he h) hq
 obtain⟨n,a',v',hn,hq⟩:=(q 0).2.law τ λp hp=>agree 0 p hp
 exact never n 0 a' v' hn hq
def Dn(ro:Option Nat)(ds:List Deferred)(f:FuncId)(T:Array Value)(k:List Item):Frame:={fn:=f,tmps:=T,todo:=k,defers:=ds,mode:=.run,kind:=.normal,roundOf:=ro}
def rD(P:Program)(X:Nat->Prop)(Y:Nat->Option Obj)(D:Nat->World->Array Event->Prop)(Stop:Goroutine->World->Prop)(ro:Option Nat)(ds:List Deferred)(f:FuncId)(cs:List Frame)(k:List Item)(T:Array Value)(v:World):Prop:=
 ∀w,qL X Y w v->rV P D Stop (G (Dn ro ds f T k) cs) w
theorem afM(hF:xB P F)(hD:vw X D){ro:Option Nat}{ds:List Deferred}{f:FuncId}{cs:List Frame}{k:List Item}{c:Code}(hc:GR P F c=true){T:Array Value}{v:World}(hf:∃fn,P.funcs[f]?=some fn)
  (h:∀τ d,c.wp P (λe a' v'=>e=.normal/\a'.defers=[]/\rD P X Y D Stop ro ds f cs k a'.tmps v') ⟨T,[]⟩ {v with tape:=τ,drawn:=d}):rD P X Y D Stop ro ds f cs (.code c::k) T v:=
 λ_ hs=>ar7 (K:=⟨k,ro,ds⟩) (fn:=f) (a:=⟨T,[]⟩) hF hD hc h (λ_ _ _ x=>⟨x.1,x.2.1⟩) rfl hf hs λ_ _ w' hq xn=>hq.2.2 w' xn
end
section
variable {P:Program}{X:Nat->Prop}{Y:Nat->Option Obj}{D:Nat->World->Array Event->Prop}{Stop:Goroutine->World->Prop}{f:FuncId}{k:List Item}{cs:List Frame}{v w:World}
theorem xE.put(h:xE X Y w v){r:Nat}{o:Obj}(hx:¬X r)(hy:Y r=none)(ho:wL o):xE X Y (w.putObj r o) (v.putObj r o):=by
 refine⟨jE,λb hb=>by simpa using h.bound b hb,λb hb hyb=>?_,λb o2 hyb=>?_,λb hb=>?_,λb o2 hb=>?_,h.os,h.out,h.str,λb cs t fr hb hc=>?_⟩
 .by_cases e:b=r
  .subst e;by_cases hl:b<v.heap.size
   .rw[World.putObj_heap_same (by rw[h.size];exact hl),World.putObj_heap_same hl]
   .rw[jQ auA,jQ az]
  .rw[World.putObj_heap_other e,World.putObj_heap_other e];exact h.same b hb hyb
 .have e:b≠r:=λe=>by rw[e,hy]at hyb;cases hyb
  rw[World.putObj_heap_other e,World.putObj_heap_other e];exact h.gho b o2 hyb
 .have e:b≠r:=λe=>hx (e▸hb)
  rw[World.putObj_heap_other e,World.putObj_heap_other e];exact h.doc b hb
 .by_cases e:b=r
  .subst e
   have hl:b<v.heap.size:=by have:=(bf.1 hb).1;exact aww
   rw[World.putObj_heap_same hl]at hb;cases hb;exact ho
  .rw[World.putObj_heap_other e]at hb;exact h.nv b o2 hb
 .have e:b≠r:=λe=>hx (e▸hb)
  rw[World.putObj_heap_other e]at hc;exact h.unf b cs t fr hb hc
theorem qL.put(h:qL X Y w v){r:Nat}{o:Obj}(hx:¬X r)(hy:Y r=none)(ho:wL o):qL X Y (w.putObj r o) (v.putObj r o):=by obtain⟨τ,d,h⟩:=h;exact⟨τ,d,h.put hx hy ho⟩
theorem qL.alloc(h:qL X Y w v){o:Obj}(ho:wL o):qL X Y (w.alloc o) (v.alloc o):=by obtain⟨τ,d,h⟩:=h;exact⟨τ,d,h.push ho⟩
theorem qL.size(h:qL X Y w v):w.heap.size=v.heap.size:=by obtain⟨τ,d,h⟩:=h;exact h.size
theorem qL.far(h:qL X Y w v){r:Nat}(hr:v.heap.size<=r):¬X r/\Y r=none:=by
 obtain⟨τ,d,h⟩:=h;refine⟨λhx=>?_,?_⟩
 .have:=h.bound r (.inl hx);have:r<v.heap.size:=this;omega
 .cases hy:Y r with
  |none=>rfl
  |some o=>
   have:=h.bound r (.inr (by rw[hy];rfl));have:r<v.heap.size:=this;omega
theorem qL.obj(h:qL X Y w v){r:Nat}{o:Obj}(hx:¬X r)(hy:Y r=none)(ho:v.heap[r]?=some o):w.heap[r]?=some o:=by obtain⟨τ,d,h⟩:=h;exact(h.same r hx hy).trans ho
def UH(X:Nat->Prop)(Y:Nat->Option Obj)(r:Nat):Prop:=¬X r/\Y r=none
theorem DT(hx:¬X f)(w:World)(hl:f<w.heap.size):EvP X w ⟨.obj f,false,false⟩/\EvP X w ⟨.obj f,true,false⟩:=⟨.inr (.inl ⟨_,_,_,rfl,hl,hx⟩),.inr (.inl ⟨_,_,_,rfl,hl,hx⟩)⟩
theorem ajN{w:World}{e:Event}(h:EvP X w e)(fn:FuncId):NW X w (seen P fn #[e]):=λe' Np=>by have:=mem_seen Np;simp at this;subst this;exact h
theorem OM{w:World}{e1 e2:Event}(h1:EvP X w e1)(h2:EvP X w e2)(fn:FuncId):NW X w (seen P fn #[e1,e2]):=λe' Np=>by
 have:=mem_seen Np;simp at this;rcases this with rfl|rfl
 .exact h1
 .exact h2
theorem Vg(fn:FuncId)(T:Array Value)(ps:Array Tmp)(assign body:Code):(Instr.enterLoop fn T ps assign body none).runT P w #[]=
  (.ok (w.heap.size+1,[{target:=.collected w.heap.size,args:=#[]}]) ((w.alloc (.deferred (some []))).alloc (.loop {state:=.ready,pending:=none,fn,tmps:=T,params:=ps,assign,body,defers:=w.heap.size})),#[]):=by
 rw[Sem.runT_eq,run_enterLoop_outer];rfl
theorem adV{l:Nat}{r:Loop}{args:Array Value}(h:w.heap[l]?=some (.loop r))(hs:args.size=r.params.size):(Instr.yield l args).runT P w #[]=
  (.ok (.round l r.fn ((r.params.zip args).foldl (λtmps (t,a)=>tmps.setIfInBounds t a) r.tmps) r.assign r.body) w,#[⟨.obj l,false,false⟩]):=by
 simp only[Instr.yield,Instr.getLoop,getObj,bind,Sem.bind,Sem.runT,h,pure,hs,ne_eq,not_true_eq_false,aU];rfl
theorem WR{l:Nat}{r:Loop}(h:w.heap[l]?=some (.loop r)):(Instr.endRound l none).runT P w #[]=(.ok (.bool true) (w.putObj l (.loop {r with state:=.ready,pending:=none})),#[⟨.obj l,false,false⟩,⟨.obj l,true,false⟩]):=by simp only[Instr.endRound,Instr.getLoop,getObj,setObj,bind,Sem.bind,Sem.runT,h,pure];rfl
theorem ZB{l:Nat}{r:Loop}(h:w.heap[l]?=some (.loop r))(hb:(r.state==.busy)=false):(Instr.endLoop l).runT P w #[]=(.ok r.pending (w.putObj l (.loop {r with state:=.exhausted})),#[⟨.obj l,false,false⟩,⟨.obj l,true,false⟩]):=by simp only[Instr.endLoop,Instr.getLoop,getObj,setObj,bind,Sem.bind,Sem.runT,h,pure,hb,bu,aU];rfl
theorem OO{b:Nat}{ds:List Deferred}(h:w.heap[b]?=some (.deferred (some ds))):(Instr.takeDeferred b).runT P w #[]=(.ok ds (w.putObj b (.deferred none)),#[⟨.obj b,false,false⟩,⟨.obj b,true,false⟩]):=by simp only[Instr.takeDeferred,getObj,setObj,bind,Sem.bind,Sem.runT,h,pure];rfl
theorem agH{gf:FuncId}{fn:Func}{c:Code}(hf:P.funcs[gf]?=some fn)(O6:(fn.name== "runtime.NumGoroutine")=false)(hb:fn.body=some c)(atO:Array Value)(u:World):(callFunc gf atO).runT P u #[]=(.ok (.enter gf atO) u,#[]):=by
 have hne:fn.body.isNone=false:=by rw[hb];rfl
 show((λp:Program=>match p.funcs[gf]? with
  |none=>stuck "call: no such function"
  |some fn=>if fn.name== "runtime.NumGoroutine" then pure .numGoroutine
   else if fn.body.isNone then(do
    mark (.extern gf)
    if let some e:=Extern.findNext fn then return<-e atO
    match Extern.find fn with
    |some e=>pure (.value (<-e atO))
    |none=>
     if fn.name.endsWith ".init" &&!fn.name.startsWith "(" &&!fn.name.startsWith "gosem." then pure (.value (.tuple #[]))
     else unsupported (.extern fn.name))
   else pure (.enter gf atO):Program->Sem Next) P).runT P u #[]=_
 dsimp only;rw[hf];dsimp only;rw[O6,hne];rfl
theorem adi(hD:vw X D){g:Operand}{ps:Array Tmp}{assign body:Code}{T:Array Value}{gf:FuncId}{lb:Array Value}{fn:Func}{c:Code}(hg:∀fr:Frame,fr.tmps=T->fr.eval g=.func (.func gf) #[] lb)(hf:P.funcs[gf]?=some fn)(O6:(fn.name== "runtime.NumGoroutine")=false)(hb:fn.body=some c)
  (h:UH X Y v.heap.size->UH X Y (v.heap.size+1)->rD P X Y D Stop none [] gf (Dn none [{target:=.collected v.heap.size,args:=#[]}] f T (.inRangeFunc (v.heap.size+1)::k)::cs) [.code c] (#[.func (.yield (v.heap.size+1)) #[] #[]]++lb++Array.replicate (fn.ntmps-(1+lb.size)) undef)
   ((v.alloc (.deferred (some []))).alloc (.loop {state:=.ready,pending:=none,fn:=f,tmps:=T,params:=ps,assign,body,defers:=v.heap.size}))):
  rD P X Y D Stop none [] f cs (.code (.rangeFunc g ps assign body)::k) T v:=by
 intro w hs;have h1:=hs.far (ak _);have h2:=hs.far (r:=v.heap.size+1) ae;have hsz:=hs.size;refine .next rfl λd=>?_
 have xn:=((hs.at d).alloc (o:=.deferred (some [])) trivial).alloc (o:=.loop {state:=.ready,pending:=none,fn:=f,tmps:=T,params:=ps,assign,body,defers:=v.heap.size}) trivial;refine⟨_,_,#[],?_,hD.nil (by simp[World.at];omega),h h1 h2 _ xn⟩;have e1:(w.at d).heap.size=v.heap.size:=hsz
 have key:∀fr:Frame,fr.tmps=T->∀u l,(do let d<-resolve fr.eval (rangeCall g l) 0;invoke d.target d.args:Sem Next).runT P u #[]=(.ok (.enter gf (#[.func (.yield l) #[] #[]]++lb)) u,#[]):=λfr JS u l=>by show(Deferred.ofValue (fr.eval g) (Array.map fr.eval #[.const (.func (.yield l) #[] #[])])>>=λd=>invoke d.target d.args:Sem Next).runT P u #[]=_;rw[hg fr JS,show Array.map fr.eval #[.const (.func (.yield l) #[] #[])]=#[.func (.yield l) #[] #[]]by simp[Frame.eval]];show(callFunc gf (#[]++#[.func (.yield l) #[] #[]]++lb)).runT P u #[]=_;rw[agH hf O6 hb];simp
 simp only[G,Dn,stepG,stepG.exec,Vg,stepG.apply,aF];rw[key _ rfl];simp only[e1,GStep.after,Frame.enter,hf,hb,dJ,aB,fB,mM];rfl
theorem adf(hD:vw X D){ops:Array Oper}{i:Nat}{rest:List Nat}{o:Oper}{T:Array Value}{l t:Nat}{r:Loop}{args:Array Operand}{ats:Array TypeId}{vs:Array Value}(ho:ops[i]?=some o)(hw:Region.wanted o (yielded ops T)=true)
  (uJ:o.op=.call {callee:=.value (.tmp t),args,argTypes:=ats}) (ht:T.getD t undef=.func (.yield l) #[] #[]) (hvs:args.map (⟨T,[]⟩:Act).eval=vs) (hl:v.heap[l]?=some (.loop r)) (hO:UH X Y l) (hps:vs.size=r.params.size)
  (h:rD P X Y D Stop (some l) [] r.fn (Dn none [] f T (.inRegion ops (i::rest)::k)::cs) [.code r.assign,.beginRound,.code r.body] ((r.params.zip vs).foldl (λtmps (t,a)=>tmps.setIfInBounds t a) r.tmps) v):
  rD P X Y D Stop none [] f cs (.inRegion ops (i::rest)::k) T v:=by
 intro w hs;refine .next rfl λd=>?_
 have Fg:(w.at d).heap[l]?=some (.loop r):=(hs.at d).obj hO.1 hO.2 hl;have qE:l<(w.at d).heap.size:=(bf.1 Fg).1;refine⟨_,_,seen P f #[⟨.obj l,false,false⟩],?_,hD.to (w:=w.at d) rfl (ak _) (ajN (DT hO.1 _ qE).1 _),h _ (hs.at d)⟩
 have e1:stepG P true (G (Dn none [] f T (.inRegion ops (i::rest)::k)) cs) (w.at d)=stepG.apply P true (Dn none [] f T (.inRegion ops (i::rest)::k)) cs none (execOp (Dn none [] f T (.inRegion ops (i::rest)::k)).eval o) (w.at d):=by simp only[G,Dn,stepG,stepG.exec,ho,dJ,aB];rw[aj hw];exact Ve (λc h=>by rw[uJ]at h;cases h) (by simp only[Frame.oper?,ho])
 have e2:(execOp (Dn none [] f T (.inRegion ops (i::rest)::k)).eval o).runT P (w.at d) #[]=(.ok (.round l r.fn ((r.params.zip vs).foldl (λtmps (t,a)=>tmps.setIfInBounds t a) r.tmps) r.assign r.body) (w.at d),#[⟨.obj l,false,false⟩]):=by
  rw[<-adV (P:=P) (args:=vs) Fg hps]
  have hev:(Dn none [] f T (.inRegion ops (i::rest)::k)).eval=(⟨T,[]⟩:Act).eval:=by
   funext x
   cases x<;>rfl
  rw[hev];obtain⟨dst,op,ty,pos,after,guard⟩:=o;dsimp only at uJ;subst uJ;show(Deferred.ofValue (T.getD t undef) (args.map (⟨T,[]⟩:Act).eval)>>=λd=>invoke d.target d.args:Sem Next).runT P (w.at d) #[]=_;rw[ht,hvs];show(Instr.yield l (#[]++vs)).runT P (w.at d) #[]=_;rw[Array.empty_append]
 rw[e1];simp only[stepG.apply,aF,e2,GStep.after];rfl
theorem adh(hD:vw X D){T:Array Value}{ds:List Deferred}{l:Nat}{r:Loop}(hl:v.heap[l]?=some (.loop r))(hr:r.state=.ready)(hO:UH X Y l)(h:rD P X Y D Stop (some l) ds f cs k T (v.putObj l (.loop {r with state:=.busy}))):
  rD P X Y D Stop (some l) ds f cs (.beginRound::k) T v:=by
 intro w hs;refine .next rfl λd=>?_
 have Fg:(w.at d).heap[l]?=some (.loop r):=(hs.at d).obj hO.1 hO.2 hl;have qE:l<(w.at d).heap.size:=(bf.1 Fg).1;refine⟨_,_,seen P f #[⟨.obj l,false,false⟩,⟨.obj l,true,false⟩],?_,hD.to (w:=w.at d) oV (ak _) (OM (DT hO.1 _ qE).1 (DT hO.1 _ qE).2 _),h _ ((hs.at d).put hO.1 hO.2 trivial)⟩
 have e2:(do Option.elim (some l) (stuck "beginRound: no round") Instr.beginRound;pure .skip:Sem Next).runT P (w.at d) #[]=(.ok .skip ((w.at d).putObj l (.loop {r with state:=.busy})),#[⟨.obj l,false,false⟩,⟨.obj l,true,false⟩]):=by simp only[Option.elim,Instr.beginRound,Instr.getLoop,getObj,setObj,bind,Sem.bind,Sem.runT,Fg,pure,hr];rfl
 simp only[G,Dn,stepG,stepG.exec,stepG.apply,aF];rw[e2];rfl
theorem aiX(hD:vw X D){T:Array Value}{c:Frame}{l:Nat}{r:Loop}(hl:v.heap[l]?=some (.loop r))(hO:UH X Y l)(h:∀w,qL X Y w (v.putObj l (.loop {r with state:=.ready,pending:=none}))->rV P D Stop (G (c.finish (.bool true)) cs) w):
  rD P X Y D Stop (some l) [] f (c::cs) [] T v:=by
 intro w hs;refine .next rfl λd=>?_
 have Fg:(w.at d).heap[l]?=some (.loop r):=(hs.at d).obj hO.1 hO.2 hl;have qE:l<(w.at d).heap.size:=(bf.1 Fg).1;refine⟨_,_,seen P f #[⟨.obj l,false,false⟩,⟨.obj l,true,false⟩],?_,hD.to (w:=w.at d) oV (ak _) (OM (DT hO.1 _ qE).1 (DT hO.1 _ qE).2 _),h _ ((hs.at d).put hO.1 hO.2 trivial)⟩;simp only[G,Dn,stepG,stepG.exec,WR Fg,doReturn];rfl
theorem We(hD:vw X D){T:Array Value}{ds:List Deferred}{ro:Option Nat}{l:Nat}{r:Loop}(hl:v.heap[l]?=some (.loop r))(hr:(r.state==.busy)=false)(hp:r.pending=none)(hO:UH X Y l)(h:rD P X Y D Stop ro ds f cs k T (v.putObj l (.loop {r with state:=.exhausted}))):
  rD P X Y D Stop ro ds f cs (.endRangeFunc l::k) T v:=by
 intro w hs;refine .next rfl λd=>?_
 have Fg:(w.at d).heap[l]?=some (.loop r):=(hs.at d).obj hO.1 hO.2 hl;have qE:l<(w.at d).heap.size:=(bf.1 Fg).1;refine⟨_,_,seen P f #[⟨.obj l,false,false⟩,⟨.obj l,true,false⟩],?_,hD.to (w:=w.at d) oV (ak _) (OM (DT hO.1 _ qE).1 (DT hO.1 _ qE).2 _),h _ ((hs.at d).put hO.1 hO.2 trivial)⟩;simp only[G,Dn,stepG,stepG.exec,ZB Fg hr,hp];rfl
theorem Nb(hD:vw X D){fn:Func}(hf:P.funcs[f]?=some fn){T:Array Value}{c:Frame}{y:Value}(BF:∀τ d,(results fn T).run P {v with tape:=τ,drawn:=d}=.ok y {v with tape:=τ,drawn:=d})
  (h:∀w,qL X Y w v->rV P D Stop (G (c.finish y) cs) w) (w:World) (hs:qL X Y w v):rV P D Stop (G {Dn none [] f T k with mode:=.returning} (c::cs)) w:=by
 refine .next rfl λd'=>?_
 have xn:xE X Y (w.at d') {v with tape:=λp=>w.tape (d'+p),drawn:=0}:=hs.re d' 0 _ λi q=>ai
 have hr:=BF (λp=>w.tape (d'+p)) 0;obtain⟨w',h1,h2,h3,h4⟩:=vJ (results fn T) (w.at d') _ #[] y _ ((results fn T).events P {v with tape:=λp=>w.tape (d'+p),drawn:=0} #[]) (wI fn T) xn pO;refine⟨G (c.finish y) cs,w',seen P f ((results fn T).events P {v with tape:=λp=>w.tape (d'+p),drawn:=0} #[]),?_,hD _ w' _ (dX (xn.size.trans h2.size.symm)) (λe he=>(h4 e (mem_seen he)).resolve_left ai),h w' ⟨_,_,h2⟩⟩
 have eA:∀c2 r2 u,stepG P true (G {Dn none [] f T k with mode:=.returning} (c2::r2)) u=
   GStep.after (seen P f ((results fn T).runT P u #[]).2) (match((results fn T).runT P u #[]).1 with
    | .ok v w=>doReturn P true {Dn none [] f T k with mode:=.returning} (c2::r2) none v w
    | .halt (.stuck s) w=>.ended (.stuck s (Frame.pos P {Dn none [] f T k with mode:=.returning})) w
    | .halt _ w=>.ended (.stuck "return: the result variables cannot be read" (Frame.pos P {Dn none [] f T k with mode:=.returning})) w):=λc2 r2 u=>by
  simp only[G,stepG,unwind,Dn,hf];rfl
 exact axo
theorem af6(hD:vw X D){fn:Func}(hf:P.funcs[f]?=some fn){T:Array Value}{c:Frame}{y:Value}(BF:∀τ d,(results fn T).run P {v with tape:=τ,drawn:=d}=.ok y {v with tape:=τ,drawn:=d})
  (h:∀w,qL X Y w v->rV P D Stop (G (c.finish y) cs) w):rD P X Y D Stop none [] f (c::cs) [] T v:=by
 intro w hs;exact .next rfl λd=>⟨G {Dn none [] f T []with mode:=.returning} (c::cs),w.at d,#[],rfl,hD.nil (ak _),Nb hD hf BF h _ (hs.at d)⟩
theorem aiZ(hD:vw X D){fn:Func}(hf:P.funcs[f]?=some fn){T:Array Value}{c:Frame}{b:Nat}{y:Value}(hb:v.heap[b]?=some (.deferred (some [])))(hO:UH X Y b)(BF:∀τ d,(results fn T).run P {v.putObj b (.deferred none)with tape:=τ,drawn:=d}=.ok y {v.putObj b (.deferred none)with tape:=τ,drawn:=d})
  (h:∀w,qL X Y w (v.putObj b (.deferred none))->rV P D Stop (G (c.finish y) cs) w):rD P X Y D Stop none [{target:=.collected b,args:=#[]}] f (c::cs) [.code .ret] T v:=by
 intro w hs;refine .next rfl λd=>⟨G {Dn none [{target:=.collected b,args:=#[]}] f T [.code .ret]with mode:=.returning} (c::cs),w.at d,#[],rfl,hD.nil (ak _),?_⟩
 refine .next rfl λd'=>?_
 have Ir:(w.at d').heap[b]?=some (.deferred (some [])):=(hs.at d').obj hO.1 hO.2 hb;have qE:b<(w.at d').heap.size:=(bf.1 Ir).1;refine⟨G {Dn none [] f T [.code .ret]with mode:=.returning} (c::cs),(w.at d').putObj b (.deferred none),seen P f #[⟨.obj b,false,false⟩,⟨.obj b,true,false⟩],?_,hD.to (w:=w.at d') oV (ak _) (OM (DT hO.1 _ qE).1 (DT hO.1 _ qE).2 _),Nb hD hf BF h _ ((hs.at d').put hO.1 hO.2 trivial)⟩;show stepG P true _ (w.at d')=_;simp only[G,Dn,stepG,unwind,OO Ir];rfl
