import Derived.Test.YtlghjjennhpjeaaGreatDoorEnT
import Derived.RangeFuncRecord
set_option maxHeartbeats 1000000
namespace Go.Lf
open Go.Conc
structure Ext where
 k:dh
 ro:Option Nat
 ds:List Deferred
def zk(E:Ext)(f:aS):aS:={f with todo:=f.todo++E.k,roundOf:=E.ro,defers:=E.ds}
theorem BF{f:aS}(h1:f.roundOf=none)(h2:f.defers=[]):zk ⟨[],none,[]⟩ f=f:=by obtain⟨fn,tmps,todo,defers,mode,kind,round⟩:=f;dsimp only at h1 h2;subst h1 h2;simp[zk]
def Ends(t:dh):Prop:=t=[]\/∃k,t=.code .ret::k
section
variable {P:aP}{F:aU->Bool}{X:Nat->Prop}{Y:Nat->aZ}{D:Nat->ah->aN->Prop}{Stop:aI->ah->Prop}
theorem anx(E:Ext)(f:aS):(zk E f).eval=f.eval:=by
 funext x
 cases x<;>rfl
theorem adW{fr:aS}{o:Oper}{cs:aT}{dy:Option Dying}{w:ah}(h:∀c,o.op≠.defer c)(ho:fr.oper?=some o):stepG.oper P true fr cs dy w=stepG.apply P true fr cs dy (execOp fr.eval o) w:=by
 unfold stepG.oper;rw[ho];dsimp only;split
 .rename_i hx;exact absurd hx (h _)
 .rfl
inductive ao_ (P:aP) (F:aU->Bool) (f:aS) (cs:aT) (w w':ah) (es:aN) (g':aI):Prop
 |here {f':aS}:g'=G f' cs->Jq P F f'->(f'.mode=.run\/f'.mode=.returning)->(∀E z_,(Ends f.todo->E=⟨[],none,[]⟩)->stepG P true (G (zk E f) z_) w=.go (G (zk E f') z_) w' es)->ao_ P F f cs w w' es g'
 |call {e:aS}:g'=G e (f::cs)->Jq P F e->e.mode=.run->(f.todo≠[]/\∀u,Jq P F (f.finish u))->(∀E z_,stepG P true (G (zk E f) z_) w=.go (G e (zk E f::z_)) w' es)->ao_ P F f cs w w' es g'
def ab1(P:aP)(F:aU->Bool)(X:Nat->Prop)(Y:Nat->aZ)(f:aS)(cs:aT)(w v:ah):Prop:=
 (∃o v' es,stepG P true (G f cs) v=.ended o v' es)\/(∃ch v' es,stepG P true (G f cs) v=.go (G {f with mode:=.panicking ch} cs) v' es)\/
 ∃g' v' es w',stepG P true (G f cs) v=.go g' v' es/\Tp P (G f cs) v g' v' es/\yg X Y w' v'/\w.heap.size<=w'.heap.size/\Ux X w' es/\ao_ P F f cs w w' es g'
theorem Qs{f f':aS}{cs:aT}{w v:ah}(hs:yg X Y w v)(h:∀E z_ u,(Ends f.todo->E=⟨[],none,[]⟩)->stepG P true (G (zk E f) z_) u=.go (G (zk E f') z_) u #[])(hT:Jq P F f')(hm:f'.mode=.run\/f'.mode=.returning)(h1:f.roundOf=none:=by rfl)(h2:f.defers=[]:=by rfl):ab1 P F X Y f cs w v:=by
 have key:∀u,stepG P true (G f cs) u=.go (G f' cs) u #[]:=λu=>by have:=h ⟨[],none,[]⟩ cs u (λ_=>rfl);rwa[BF h1 h2,BF hT.round hT.defers]at this
 exact ayb
theorem apa(hF:x9 P F){f:aS}{cs:aT}{w v:ah}(hT:Jq P F f)(hm:f.mode=.run)(hs:yg X Y w v):ab1 P F X Y f cs w v:=by
 obtain⟨fn,tmps,todo,defers,mode,kind,round⟩:=f;obtain⟨⟨GI,NY⟩,hk,hd,hr,S,ht,hS⟩:=hT;dsimp only at NY hk hd hr ht hS hm;subst hk hd hr hm;have mk:∀{acD:dh}{ajv:FrameMode},(∀it∈acD,Ew P F S it)->Jq P F ⟨fn,tmps,acD,[],ajv,.normal,none⟩:=λh=>⟨⟨GI,NY⟩,rfl,rfl,rfl,S,h,hS⟩
 cases todo with
 |nil=>exact Qs (f':=⟨fn,tmps,[],[],.returning,.normal,none⟩) hs (λK z_ u hK=>by rw[hK (.inl rfl)];rfl) (mk aA) (.inr rfl)
 |cons it k=>
  have FM:=ht it aA;have hk:∀x∈k,Ew P F S x:=λx hx=>ht x ad2
  have two:∀{a:Item},Ew P F S a->∀x∈a::k,Ew P F S x:=λha x hx=>by
   rcases dK.1 hx with rfl|hx
   .exact ha
   .exact hk x hx
  cases it with
  |code c=>
   cases c with
   |skip=>exact Qs (f':=⟨fn,tmps,k,[],.run,.normal,none⟩) hs (λK z_ u _=>rfl) (mk hk) (.inl rfl)
   |ret=>exact Qs (f':=⟨fn,tmps,.code .ret::k,[],.returning,.normal,none⟩) hs (λK z_ u hK=>by rw[hK (.inr ⟨_,rfl⟩)];simp only[G,zk,stepG,stepG.exec,dX];rfl) (mk ht) (.inr rfl)
   |seq a b=>
    have V7:uz P F S a=true/\uz P F S b=true:=pY
    exact Qs (f':=⟨fn,tmps,.code a::.code b::k,[],.run,.normal,none⟩) hs (λK z_ u _=>rfl) (mk λx hx=>by
     rcases dK.1 hx with rfl|hx
     .exact V7.1
     .exact two (a:=.code b) V7.2 x hx) (.inl rfl)
   |cond c a b=>
    have V7:uz P F S a=true/\uz P F S b=true:=pY;cases he:(⟨fn,tmps,.code (.cond c a b)::k,[],.run,.normal,none⟩:aS).eval c with
    |bool t=>
     refine Qs (f':=⟨fn,tmps,.code (if t then a else b)::k,[],.run,.normal,none⟩) hs (λK z_ u _=>?_) (mk (two (a:=.code (if t then a else b)) (by cases t<;>simp[Ew,V7]))) (.inl rfl);have LM:(zk K ⟨fn,tmps,.code (.cond c a b)::k,[],.run,.normal,none⟩).eval c=.bool t:=by rw[anx];exact he
     simp only[zk,df]at LM;simp only[G,zk,stepG,stepG.exec,df,LM]
    |_=>exact .inl ⟨_,_,_,awh⟩
   |block id c=>exact Qs (f':=⟨fn,tmps,.code c::.inBlock id::k,[],.run,.normal,none⟩) hs (λK z_ u _=>rfl) (mk λx hx=>by
    rcases dK.1 hx with rfl|hx
    .exact FM
    .exact two (a:=.inBlock id) trivial x hx) (.inl rfl)
   |loop c=>exact Qs (f':=⟨fn,tmps,.code c::.inLoop c::k,[],.run,.normal,none⟩) hs (λK z_ u _=>rfl) (mk λx hx=>by
    rcases dK.1 hx with rfl|hx
    .exact FM
    .exact two (a:=.inLoop c) FM x hx) (.inl rfl)
   |exit id=>
    cases he:exitTo id k with
    |none=>exact .inl ⟨_,_,_,awi⟩
    |some k'=>exact Qs (f':=⟨fn,tmps,k',[],.run,.normal,none⟩) hs (λK z_ u _=>by simp only[G,zk,stepG,stepG.exec,df,Ie he,Option.elim]) (mk λx hx=>hk x (Ig he x hx)) (.inl rfl)
   |region id ops draw=>
    have ho:ops.all (Fz P F S)=true:=FM;cases draw with
    |false=>exact Qs (f':=⟨fn,tmps,.inRegion ops (List.range ops.size)::k,[],.run,.normal,none⟩) hs (λK z_ u _=>rfl) (mk (two (a:=.inRegion ops _) ho)) (.inl rfl)
    |true=>
     have hc:∀u:ah,(choose (.order fn id)).run P u=.ok (u.tape u.drawn (.order fn id)) {u with drawn:=u.drawn+1}:=λu=>rfl
     have et:w.tape w.drawn (.order fn id)=v.tape v.drawn (.order fn id):=awe
     refine .inr (.inr ⟨_,{v with drawn:=v.drawn+1},#[],{w with drawn:=w.drawn+1},awj,⟨rfl,Nat.le_succ _,λτ hτ=>awk⟩,hs.draw,ay _,λe he=>nU,
      .here (f':=⟨fn,tmps,.inRegion ops (Region.schedule (P.follows .mixedOrders) ops (v.tape v.drawn (.order fn id)))::k,[],.run,.normal,none⟩) rfl (mk (two (a:=.inRegion ops _) ho)) (.inl rfl) λK z_ _=>?_⟩)
     simp only[G,zk,stepG,stepG.exec,df,jD,dm,bU,hc,et]
   |_=>cases FM
  |inBlock id=>exact Qs (f':=⟨fn,tmps,k,[],.run,.normal,none⟩) hs (λK z_ u _=>rfl) (mk hk) (.inl rfl)
  |inLoop c=>exact Qs (f':=⟨fn,tmps,.code c::.inLoop c::k,[],.run,.normal,none⟩) hs (λK z_ u _=>rfl) (mk λx hx=>by
     rcases dK.1 hx with rfl|hx
     .exact FM
     .exact two (a:=.inLoop c) FM x hx) (.inl rfl)
  |inRegion ops is=>
   cases is with
   |nil=>exact Qs (f':=⟨fn,tmps,k,[],.run,.normal,none⟩) hs (λK z_ u _=>rfl) (mk hk) (.inl rfl)
   |cons i rest=>
    have ho:ops.all (Fz P F S)=true:=FM;cases hw:((ops[i]?).map (Region.wanted · (yielded ops tmps))).getD false with
    |false=>
     refine Qs (f':=(⟨fn,tmps,.inRegion ops (i::rest)::k,[],.run,.normal,none⟩:aS).finish undef) hs (λK z_ u _=>?_) ⟨⟨GI,NY⟩,rfl,rfl,rfl,S,two (a:=.inRegion ops _) ho,hS.un _⟩ (.inl rfl);simp only[G,zk,stepG,stepG.exec,df,hw,dm,bU,Frame.finish]
    |true=>
     cases hoi:ops[i]? with
     |none=>rw[hoi]at hw;cases hw
     |some o=>
      have L8:Fz P F S o=true:=l9.1 ho o (fJ hoi)
      have eA:∀K z_ u,stepG P true (G (zk K ⟨fn,tmps,.inRegion ops (i::rest)::k,[],.run,.normal,none⟩) z_) u=
        stepG.apply P true (zk K ⟨fn,tmps,.inRegion ops (i::rest)::k,[],.run,.normal,none⟩) z_ none (execOp (⟨fn,tmps,.inRegion ops (i::rest)::k,[],.run,.normal,none⟩:aS).eval o) u:=λK z_ u=>by
       rw[<-anx K];rw[hoi]at hw;simp only[G,zk,stepG,stepG.exec,df,hoi];rw[ax hw];exact adW (λc h=>by unfold Fz at L8;rw[h,fU]at L8;cases L8.2) (by simp only[Frame.oper?,hoi])
      obtain⟨uD,hlf⟩:=Zo hF (ρ:=(⟨fn,tmps,.inRegion ops (i::rest)::k,[],.run,.normal,none⟩:aS).eval) (λ_=>rfl) (λ_=>rfl) hS L8;have QP:∀{x:aU×Nat}{v v':ah}{es rF:aN}{n:Next},Rh S x o.op=true->(execOp (⟨fn,tmps,.inRegion ops (i::rest)::k,[],.run,.normal,none⟩:aS).eval o).runT P v es=(.ok n v',rF)->∃u,n=.value u/\(u=undef\/∃fs cs,u=.func (.func x.1) fs cs/\fs.size+cs.size=x.2):=λh hr=>afa (λ_=>rfl) hS h hr
      have fin:∀u,(⟨fn,tmps,.inRegion ops (i::rest)::k,[],.run,.normal,none⟩:aS).finish u=⟨fn,agF o.dst tmps u,.inRegion ops rest::k,[],.run,.normal,none⟩:=λu=>by simp only[Frame.finish,hoi,gX];rfl
      generalize execOp (⟨fn,tmps,.inRegion ops (i::rest)::k,[],.run,.normal,none⟩:aS).eval o=sem at eA uD hlf QP;have eA0:=eA ⟨[],none,[]⟩ cs v;rw[BF rfl rfl]at eA0;cases r_:sem.runT P v #[]with
      |mk r es=>
       cases r with
       |halt h v'=>
        have hh:=uD.RY w v #[] h v' es hs r_;cases h with
        |panic u=>
         exact .inr (.inl ⟨_,_,_,mG⟩)
        |stuck s=>exact .inl ⟨_,_,_,mG⟩
        |unsupported u=>
         cases u with
         |initOrder b=>exact hh.elim
         |_=>exact .inl ⟨_,_,_,mG⟩
        |_=>exact hh.elim
       |ok x v'=>
        obtain⟨w',EU,xk,hsz,hev⟩:=uD.VW w v #[] x v' es hs r_;obtain⟨PX,ht2,ht3⟩:=uD.tape v #[] x v' es hs.nv r_
        have eAτ:∀τ:Nat->Question->Nat,stepG P true (G ⟨fn,tmps,.inRegion ops (i::rest)::k,[],.run,.normal,none⟩ cs) {v with tape:=τ}=stepG.apply P true ⟨fn,tmps,.inRegion ops (i::rest)::k,[],.run,.normal,none⟩ cs none sem {v with tape:=τ}:=λτ=>by have:=eA ⟨[],none,[]⟩ cs {v with tape:=τ};rwa[BF rfl rfl]at this
        have Z_:w.heap.size<=w'.heap.size:=avs;have aew:Ux X w' (seen P fn es):=λe he=>(hev e (mem_seen he)).resolve_left aA
        rcases uM sem hlf v #[] x v' es r_ with⟨u,rfl⟩|rfl|⟨f1,auf,hf1,has,rfl⟩
        .refine .inr (.inr ⟨_,_,seen P fn es,w',mJ,⟨PX,ht2,λτ hτ=>mD⟩,xk,Z_,aew,
          .here (f':=(⟨fn,tmps,.inRegion ops (i::rest)::k,[],.run,.normal,none⟩:aS).finish u) rfl awE (.inl rfl) λK z_ _=>?_⟩)
         exact axo
        .refine .inr (.inr ⟨_,_,seen P fn es,w',mJ,⟨PX,ht2,λτ hτ=>mD⟩,xk,Z_,aew,
          .here (f':=(⟨fn,tmps,.inRegion ops (i::rest)::k,[],.run,.normal,none⟩:aS).finish undef) rfl awC (.inl rfl) λK z_ _=>?_⟩)
         exact axo
        .obtain⟨fn1,c1,S1,g1,g2,g3,g4,g5⟩:=hf1
         refine .inr (.inr ⟨_,_,seen P fn es,w',mJ,⟨PX,ht2,λτ hτ=>mD⟩,xk,Z_,aew,
          .call (e:=Frame.enter P f1 auf .normal) rfl ⟨⟨fn1,g1⟩,rfl,rfl,rfl,S1,λx hx=>?_,Gw.enter has g5⟩ rfl ⟨aA,λu=>awD⟩ λK z_=>?_⟩)
         .exact axy
         .rw[eA];simp only[stepG.apply,aY,EU,GStep.after];rfl
  |_=>cases FM
def ab2(E:Ext)(cs:aT):aT->aT
 |[]=>cs
 |[b]=>zk E b::cs
 |c::d::r=>c::ab2 E cs (d::r)
def X9(E:Ext)(cs:aT)(f:aS)(r:aT):aI:=
 match r with
 |[]=>G (zk E f) cs
 |c::r=>G f (ab2 E cs (c::r))
theorem amJ{c:aS}(hT:Jq P F c)(hne:c.todo≠[])(E:Ext)(v:ai):(zk E c).finish v=zk E (c.finish v):=by
 obtain⟨fn,tmps,todo,defers,mode,kind,round⟩:=c;obtain⟨h1,hk,hd,hr,S,ht,_⟩:=hT;dsimp only at h1 hk hd hr ht hne;subst hk hd hr;cases todo with
 |nil=>exact absurd rfl hne
 |cons it k=>
  have FM:=ht it aA;cases it with
  |inRegion ops is=>
   cases is with
   |nil=>rfl
   |cons i rest=>rfl
  |code c=>rfl
  |inBlock id=>rfl
  |inLoop c=>rfl
  |_=>cases FM
theorem ajU{f:aS}(hT:Jq P F f)(hm:f.mode=.run)(ht:Ends f.todo)(cs:aT)(u:ah):stepG P true (G f cs) u=.go (G {f with mode:=.returning} cs) u #[]:=by obtain⟨fn,tmps,todo,defers,mode,kind,round⟩:=f;have hk:=hT.kind;have hd:=hT.defers;have hr:=hT.round;dsimp only at hk hd hr ht hm;subst hk hd hr hm;rcases ht with rfl|⟨k,rfl⟩<;>rfl
variable (P F X Y D Stop)in
structure SgD(E:Ext)(cs:aT)(fn:aU)(Q:Exit->Act->ah->Prop)(s:Sg):Prop where
 tf:Jq P F s.f
 mode:s.f.mode=.run\/s.f.mode=.returning
 stack:Stack P F s.r
 VW:rG X Y s.w s.u
 law:∀τ:Nat->Question->Nat,(∀p,p<s.u.drawn->τ p=s.u.tape p)->∃n a' v',Gs P n s.f (s.r++[f0]) {s.u with tape:=τ} ((base fn).at a' []) [f0] v'/\Q .normal a' v'
 no:¬sU P D Stop (X9 E cs s.f s.r) s.w
theorem ZL{K:Ext}{cs:aT}{fn:aU}{Q:Exit->Act->ah->Prop}(hK:∀a' v' w',Q .normal a' v'->rG X Y w' v'->sU P D Stop (G (zk K ((base fn).at a' [])) cs) w'){s:Sg}(hi:SgD P F X Y D Stop K cs fn Q s){τ:Nat->Question->Nat}{a':Act}{v':ah}
  (h:Gs P 0 s.f (s.r++[f0]) {s.u with tape:=τ} ((base fn).at a' []) [f0] v') (hq:Q .normal a' v'):False:=by
 obtain⟨h1,h2,h3⟩:=zy h
 have hr:s.r=[]:=by exact axJ
 apply hi.no;have:X9 K cs s.f s.r=G (zk K ((base fn).at a' [])) cs:=avt;exact axM
theorem Vu(hF:x9 P F)(hD:zN X D){K:Ext}{cs:aT}{fn:aU}{Q:Exit->Act->ah->Prop}(hK:∀a' v' w',Q .normal a' v'->rG X Y w' v'->sU P D Stop (G (zk K ((base fn).at a' [])) cs) w'){s:Sg}
  (hi:SgD P F X Y D Stop K cs fn Q s):∃s',SgD P F X Y D Stop K cs fn Q s'/\CW P s s':=by
 have uw:(X9 K cs s.f s.r).status=.running:=by cases s.r<;>rfl
 obtain⟨d,hd⟩:∃d,∀g' w' es,stepG P true (X9 K cs s.f s.r) (s.w.at d)=.go g' w' es->D s.w.heap.size w' es->¬sU P D Stop g' w':=by
  refine iw λPK=>hi.no (.next uw λd=>?_)
  exact axB
 let τ₁:Nat->Question->Nat:=λp q=>if p<s.u.drawn then s.u.tape p q else s.w.tape (d+(p-s.u.drawn)) q
 have hs:yg X Y (s.w.at d) {s.u with tape:=τ₁}:=hi.VW.re d s.u.drawn τ₁ λi q=>by
  show s.w.tape (d+i) q=if s.u.drawn+i<s.u.drawn then _ else _
  exact axx
 have hag:∀p,p<s.u.drawn->τ₁ p=s.u.tape p:=λp hp=>by
  funext q
  exact axH
 obtain⟨n,a',v',hn,hq⟩:=hi.law τ₁ hag;cases n with
 |zero=>exact(ZL hK hi hn hq).elim
 |succ n=>
  have mk:∀(f':aS)(r':aT)(u₂ w₂:ah)(es:aN),Jq P F f'->(f'.mode=.run\/f'.mode=.returning)->Stack P F r'->yg X Y w₂ u₂->Tp P (G s.f (s.r++[f0])) {s.u with tape:=τ₁} (G f' (r'++[f0])) u₂ es->
    stepG P true (X9 K cs s.f s.r) (s.w.at d)=.go (X9 K cs f' r') w₂ es->s.w.heap.size<=w₂.heap.size->Ux X w₂ es->∃s',SgD P F X Y D Stop K cs fn Q s'/\CW P s s':=λf' r' u₂ w₂ es h1 h2 h3 h4 h5 h6 h8 h7=>by
   obtain⟨t1,t2,t3⟩:=h5;dsimp only at t1 t2 t3;refine⟨⟨f',r',u₂,w₂⟩,⟨h1,h2,h3,h4.t,λτ hτ=>?_,hd _ _ _ h6 (hD _ _ _ h8 h7)⟩,t2,λp hp=>avn,λτ hτ=>⟨es,t3 τ λp QI BJ=>avp⟩⟩;dsimp only at hτ;obtain⟨n,a',v',hn,hq⟩:=hi.law τ λp hp=>avr
   cases n with
   |zero=>exact(ZL hK hi hn hq).elim
   |succ n=>exact⟨n,a',v',wY (t3 τ λp _ BJ=>avq) hn,hq⟩
  rcases hi.mode with hm|hm
  .by_cases VR:s.r=[]/\Ends s.f.todo
   .obtain⟨hr,ht⟩:=VR;rw[hr]at hn;have e:=ajU hi.tf hm ht ([]++[f0]) {s.u with tape:=τ₁};have h2:=wY e hn;cases n with
    |zero=>
     obtain⟨h3,_⟩:=zy h2;have:=bI Frame.mode h3;cases this
    |succ n=>
     rcases QU (c:=f0) (r:=[]) (f:={s.f with mode:=.returning}) (F:=F) ⟨hi.tf.fn,hi.tf.kind,hi.tf.defers,hi.tf.round,hi.tf.todo⟩ rfl hs with⟨o,LY,rF,he⟩|⟨y,LY,rF,w',he,_⟩
     .exact(x_ he h2).elim
     .exact absurd (wY he h2) (Uy n _ _ v')
   .rcases apa (cs:=s.r++[f0]) hF hi.tf hm hs with⟨o,LY,rF,he⟩|⟨ch,LY,rF,he⟩|⟨g',LY,rF,w',he,htp,xk,hsz,hev,ah_⟩
    .exact axe
    .exact ayR
    .cases ah_ with
     |@here f' hg hT' Tf hB=>
      subst hg;refine mk f' s.r LY w' rF hT' Tf hi.stack xk htp ?_ hsz hev;cases hr:s.r with
      |nil=>exact hB K cs λht=>absurd ⟨hr,ht⟩ VR
      |cons c r=>
       have:=hB ⟨[],none,[]⟩ (ab2 K cs (c::r)) (λ_=>rfl);rw[BF hi.tf.round hi.tf.defers,BF hT'.round hT'.defers]at this;exact this
     |@call e hg hTe hme hne hB=>
      subst hg;refine mk e (s.f::s.r) LY w' rF hTe (.inl hme) ⟨⟨hi.tf,hm,hne.1,P_ hi.tf hm hne⟩,hi.stack⟩ xk htp ?_ hsz hev;cases hr:s.r with
      |nil=>exact hB K cs
      |cons c r=>
       have:=hB ⟨[],none,[]⟩ (ab2 K cs (c::r));rw[BF hi.tf.round hi.tf.defers]at this;exact this
  .cases hr:s.r with
   |nil=>
    rw[hr]at hn;rcases QU (c:=f0) (r:=[]) (F:=F) hi.tf hm hs with⟨o,LY,rF,he⟩|⟨y,LY,rF,w',he,_⟩
    .exact axe
    .exact absurd (wY he hn) (Uy n _ _ v')
   |cons c r=>
    have hS:=hi.stack;rw[hr]at hn hS mk;rcases QU (c:=c) (r:=r++[f0]) (F:=F) hi.tf hm hs with⟨o,LY,rF,he⟩|⟨y,LY,rF,w',he,htp,xk,hsz,hev,hB⟩
    .exact axe
    .obtain⟨hTc,hmc,C_⟩:=hS.1.2.2.2 y;refine mk (c.finish y) r LY w' rF hTc (.inl hmc) hS.2 xk htp ?_ hsz hev;cases r with
     |nil=>
      have:=hB (zk K c) cs;rw[amJ hS.1.1 hS.1.2.2.1 K]at this;exact this
     |cons d r=>exact hB c (ab2 K cs (d::r))
theorem asc(hF:x9 P F)(hD:zN X D){c:Code}(hc:Hq P F c=true){Q:Exit->Act->ah->Prop}{a:Act}{v:ah}(h:∀τ d,c.wp P Q a {v with tape:=τ,drawn:=d})(hQ:∀e a' v',Q e a' v'->e=.normal/\a'.defers=[])(ha:a.defers=[])
  {fn:aU} (hf:∃GI,P.funcs[fn]?=some GI) {w:ah} (hs:rG X Y w v) {K:Ext} {cs:aT} (hK:∀a' v' w',Q .normal a' v'->rG X Y w' v'->sU P D Stop (G (zk K ((base fn).at a' [])) cs) w'):sU P D Stop (G (zk K ((base fn).at a [.code c])) cs) w:=by
 refine iw λPK=>?_
 have start:SgD P F X Y D Stop K cs fn Q ⟨(base fn).at a [.code c],[],{v with drawn:=0},w⟩:=by exact ayp
 let nx:{s//SgD P F X Y D Stop K cs fn Q s}->{s//SgD P F X Y D Stop K cs fn Q s}:=λs=>⟨(Vu hF hD hK s.2).choose,(Vu hF hD hK s.2).choose_spec.1⟩
 have nxs:∀s,CW P s.1 (nx s).1:=λs=>(Vu hF hD hK s.2).choose_spec.2
 let q:Nat->{s//SgD P F X Y D Stop K cs fn Q s}:=λn=>Nat.rec ⟨_,start⟩ (λ_ s=>nx s) n
 have qs:∀n,CW P (q n).1 (q (n+1)).1:=λn=>nxs (q n)
 have mono:∀n m,n<=m->(q n).1.u.drawn<=(q m).1.u.drawn/\∀p,p<(q n).1.u.drawn->(q m).1.u.tape p=(q n).1.u.tape p:=by
  intro n m VQ
  induction m with
  |zero=>
   obtain rfl:n=0:=ag;exact⟨ay _,λ_ _=>rfl⟩
  |succ m ih=>
   rcases bK n (m+1)with qB|NV
   .exact axI
   .exact axt
 have dec:∀p,Decidable (∃n,p<(q n).1.u.drawn):=λp=>Classical.propDecidable _
 let τ:Nat->Question->Nat:=λp=>if h:∃n,p<(q n).1.u.drawn then(q h.choose).1.u.tape p else λ_=>0
 have agree:∀n p,p<(q n).1.u.drawn->τ p=(q n).1.u.tape p:=λn p hp=>by
  have hex:∃n,p<(q n).1.u.drawn:=⟨n,hp⟩;show(if h:∃n,p<(q n).1.u.drawn then(q h.choose).1.u.tape p else λ_=>0)=_;rw[kG hex];have hc:=hex.choose_spec;rcases auM n hex.choose with hle|hle
  .exact(mono n _ hle).2 p hp
  .exact axv
 have never:∀(m i:Nat)(a':Act)(v':ah),Gs P m (q i).1.f ((q i).1.r++[f0]) {(q i).1.u with tape:=τ} ((base fn).at a' []) [f0] v'->Q .normal a' v'->False:=by
  intro m
  induction m with
  |zero=>exact λi a' v' h hq=>ZL hK (q i).2 h hq
  |succ m ih=>
   intro i a' v' h hq;obtain⟨es,he⟩:=(qs i).2.2 τ λp _ hp=>agree (i+1) p hp
   exact ih (i+1) a' v' (wY he h) hq
 obtain⟨n,a',v',hn,hq⟩:=(q 0).2.law τ λp hp=>agree 0 p hp
 exact never n 0 a' v' hn hq
def Dn(ro:Option Nat)(ds:List Deferred)(f:aU)(T:aH)(k:dh):aS:={fn:=f,tmps:=T,todo:=k,defers:=ds,mode:=.run,kind:=.normal,roundOf:=ro}
def yu(P:aP)(X:Nat->Prop)(Y:Nat->aZ)(D:Nat->ah->aN->Prop)(Stop:aI->ah->Prop)(ro:Option Nat)(ds:List Deferred)(f:aU)(cs:aT)(k:dh)(T:aH)(v:ah):Prop:=
 ∀w,rG X Y w v->sU P D Stop (G (Dn ro ds f T k) cs) w
theorem ag3(hF:x9 P F)(hD:zN X D){ro:Option Nat}{ds:List Deferred}{f:aU}{cs:aT}{k:dh}{c:Code}(hc:Hq P F c=true){T:aH}{v:ah}(hf:∃fn,P.funcs[f]?=some fn)
  (h:∀τ d,c.wp P (λe a' v'=>e=.normal/\a'.defers=[]/\yu P X Y D Stop ro ds f cs k a'.tmps v') ⟨T,[]⟩ {v with tape:=τ,drawn:=d}):yu P X Y D Stop ro ds f cs (.code c::k) T v:=
 λ_ hs=>asc (K:=⟨k,ro,ds⟩) (fn:=f) (a:=⟨T,[]⟩) hF hD hc h (λ_ _ _ x=>⟨x.1,x.2.1⟩) rfl hf hs λ_ _ w' hq xk=>hq.2.2 w' xk
end
section
variable {P:aP}{X:Nat->Prop}{Y:Nat->aZ}{D:Nat->ah->aN->Prop}{Stop:aI->ah->Prop}{f:aU}{k:dh}{cs:aT}{v w:ah}
theorem rG.alloc(h:rG X Y w v){o:Obj}(ho:xy o):rG X Y (w.alloc o) (v.alloc o):=by obtain⟨τ,d,h⟩:=h;exact⟨τ,d,h.push ho⟩
theorem rG.size(h:rG X Y w v):w.heap.size=v.heap.size:=by obtain⟨τ,d,h⟩:=h;exact h.size
theorem adX(hD:zN X D){fn:Func}(hf:P.funcs[f]?=some fn){T:aH}{c:aS}{y:ai}(F9:∀τ d,(results fn T).run P {v with tape:=τ,drawn:=d}=.ok y {v with tape:=τ,drawn:=d})
  (h:∀w,rG X Y w v->sU P D Stop (G (c.finish y) cs) w) (w:ah) (hs:rG X Y w v):sU P D Stop (G {Dn none [] f T k with mode:=.returning} (c::cs)) w:=by
 refine .next rfl λd'=>?_
 have xk:yg X Y (w.at d') {v with tape:=λp=>w.tape (d'+p),drawn:=0}:=hs.re d' 0 _ λi q=>aA
 have hr:=F9 (λp=>w.tape (d'+p)) 0;obtain⟨w',h1,h2,h3,h4⟩:=vP (results fn T) (w.at d') _ #[] y _ ((results fn T).events P {v with tape:=λp=>w.tape (d'+p),drawn:=0} #[]) (wM fn T) xk aup;refine⟨G (c.finish y) cs,w',seen P f ((results fn T).events P {v with tape:=λp=>w.tape (d'+p),drawn:=0} #[]),?_,hD _ w' _ (fA (xk.size.trans h2.size.symm)) (λe he=>(h4 e (mem_seen he)).resolve_left aA),h w' ⟨_,_,h2⟩⟩
 have eA:∀c2 r2 u,stepG P true (G {Dn none [] f T k with mode:=.returning} (c2::r2)) u=
   GStep.after (seen P f ((results fn T).runT P u #[]).2) (match((results fn T).runT P u #[]).1 with
    | .ok v w=>doReturn P true {Dn none [] f T k with mode:=.returning} (c2::r2) none v w
    | .halt (.stuck s) w=>.ended (.stuck s (Frame.pos P {Dn none [] f T k with mode:=.returning})) w
    | .halt _ w=>.ended (.stuck "return: the result variables cannot be read" (Frame.pos P {Dn none [] f T k with mode:=.returning})) w):=λc2 r2 u=>by
  simp only[G,stepG,unwind,Dn,hf];rfl
 exact ayM
end
section
variable {P:aP}{F:aU->Bool}{X:Nat->Prop}{Y:Nat->aZ}{Φ:aI->ah->Prop}{f:aU}{k:dh}{cs:aT}{a:Act}{v:ah}{ops:Array Oper}{i:Nat}{rest:aC}{o:Oper}
theorem Xq:∀(n:Nat)(f:aS)(r:aT)(ch:List PanicEntry)(v:ah)(f':aS)(r':aT)(v':ah),(∀c∈r,Jq P F c/\c.mode=.run)->f.mode=.panicking ch->((∃fn,P.funcs[f.fn]?=some fn)/\f.defers=[])->(∀ch,f'.mode≠.panicking ch)->
  ¬Gs P n f (r++[f0]) v f' r' v'
 |0,f,r,ch,v,f',r',v',_,hm,_,Tf,h=>by obtain⟨rfl,_⟩:=zy h;exact Tf _ hm
 |n+1,f,r,ch,v,f',r',v',hr,hm,⟨⟨fn,NY⟩,hd⟩,Tf,h=>by
  have ajw:f.catches P=false:=awd;cases r with
  |nil=>
   have e:stepG P true (G f ([]++[f0])) v=.go (G (f0.raise ch) []) v #[]:=by simp only[dw,G,stepG,hm,unwind,hd,ajw,dm,bU]
   have h2:=wY e h;cases n with
   |zero=>
    obtain⟨h3,_⟩:=zy h2;exact Tf ch (by rw[<-h3];rfl)
   |succ n=>
    obtain⟨o,v1,es,he⟩:=afb (P:=P) ch v;exact x_ (show stepG P true (G (f0.raise ch) []) v=_ from he) h2
  |cons c r=>
   have e:stepG P true (G f (c::r++[f0])) v=.go (G (c.raise ch) (r++[f0])) v #[]:=by simp only[df,G,stepG,hm,unwind,hd,ajw,dm,bU]
   have h2:=wY e h;obtain⟨hc,sJ⟩:=hr c aA;have er:c.raise ch={c with mode:=.panicking ch}:=by simp[Frame.raise,sJ]
   rw[er]at h2;exact Xq n {c with mode:=.panicking ch} r ch v f' r' v' (λx hx=>hr x ad2) rfl ⟨hc.fn,hc.defers⟩ Tf h2
theorem afS{g:aU}(hg:Jr P F g){auf:aH}(ha:auf.size<=arity P g):Jq P F (Frame.enter P g auf .normal):=by obtain⟨fn1,c1,S1,g1,g2,g3,g4,g5⟩:=hg;refine⟨⟨fn1,g1⟩,rfl,rfl,rfl,S1,λx hx=>?_,Gw.enter ha g5⟩;exact axy
variable {D:Nat->ah->aN->Prop}{Stop:aI->ah->Prop}{ro:Option Nat}{ds:List Deferred}{T:aH}
theorem FN:yu P X Y D Stop none [] f cs k T v↔uN P X Y D Stop f cs k ⟨T,[]⟩ v:=Iff.rfl
theorem Lu(hD:zN X D){k k':dh}(h:∀w,stepG P true (G (Dn ro ds f T k) cs) w=.go (G (Dn ro ds f T k') cs) w #[])(hr:yu P X Y D Stop ro ds f cs k' T v):yu P X Y D Stop ro ds f cs k T v:=
 λw hs=>.next rfl λd=>⟨_,_,_,h (w.at d),hD.nil (ay _),hr _ (hs.at d)⟩
theorem yB(hD:zN X D){c d:Code}(hr:yu P X Y D Stop ro ds f cs (.code c::.code d::k) T v):yu P X Y D Stop ro ds f cs (.code (.seq c d)::k) T v:=Lu hD (λ_=>rfl) hr
theorem ag4(hD:zN X D){t:Nat}{b:Bool}{c d:Code}(he:T.getD t undef=.bool b)(hr:yu P X Y D Stop ro ds f cs (.code (if b then c else d)::k) T v):yu P X Y D Stop ro ds f cs (.code (.cond (.tmp t) c d)::k) T v:=Lu hD (λ_=>by simp only[G,Dn,stepG,stepG.exec,Frame.eval,he]) hr
theorem JB(hD:zN X D){id:Nat}(hr:yu P X Y D Stop ro ds f cs (.inRegion ops (List.range ops.size)::k) T v):yu P X Y D Stop ro ds f cs (.code (.region id ops false)::k) T v:=Lu hD (λ_=>rfl) hr
theorem xh(hD:zN X D)(hr:yu P X Y D Stop ro ds f cs k T v):yu P X Y D Stop ro ds f cs (.inRegion ops []::k) T v:=Lu hD (λ_=>rfl) hr
theorem TE(hF:x9 P F)(hD:zN X D){c:Code}(hc:Hq P F c=true)(hf:∃fn,P.funcs[f]?=some fn)
  (h:∀R:Act->ah->Prop,(∀T' v',yu P X Y D Stop ro ds f cs k T' v'->R ⟨T',[]⟩ v')->∀τ d,c.wp P (λe a' v'=>e=.normal/\a'.defers=[]/\R a' v') ⟨T,[]⟩ {v with tape:=τ,drawn:=d}):yu P X Y D Stop ro ds f cs (.code c::k) T v:=
 ag3 hF hD hc hf λτ d=>h (λa' v'=>yu P X Y D Stop ro ds f cs k a'.tmps v') (λ_ _ x=>x) τ d
theorem DT(hD:zN X D){g:aU}{fn:Func}{c:Code}{args:Array Operand}{ats:Array aG}{vs:aH}{n:Nat}(ho:ops[i]?=some o)(hw:Region.wanted o (yielded ops T)=true)(uZ:o.op=.call {callee:=.value (.func g),args,argTypes:=ats})
  (hf:P.funcs[g]?=some fn) (acx:(fn.name== "runtime.NumGoroutine")=false) (hb:fn.body=some c) (hvs:args.map (⟨T,[]⟩:Act).eval=vs) (hn:fn.ntmps-vs.size=n)
  (h:yu P X Y D Stop none [] g (Dn none [] f T (.inRegion ops (i::rest)::k)::cs) [.code c] (vs++Array.replicate n undef) v):yu P X Y D Stop none [] f cs (.inRegion ops (i::rest)::k) T v:=by
 subst hvs hn;intro w hs;refine .next rfl λd=>?_
 obtain⟨g1,w1,es,hgo,rfl,rfl,rfl⟩:=goes_elim (goes_call (P:=P) (main:=true) (b:=base f) (a:=⟨T,[]⟩) (k:=k) (cs:=cs) (w:=w.at d) (rest:=rest) (K:=λg1 w1 es=>g1=G ((base g).at {tmps:=args.map (⟨T,[]⟩:Act).eval++Array.replicate (fn.ntmps-(args.map (⟨T,[]⟩:Act).eval).size) undef,defers:=[]} [.code c]) ((base f).at ⟨T,[]⟩ (.inRegion ops (i::rest)::k)::cs)/\w1=w.at d/\es=#[]) ho hw oh uZ hf acx hb ⟨rfl,rfl,rfl⟩);exact⟨_,_,_,hgo,hD.nil (ay _),h _ (hs.at d)⟩
theorem rf(hF:x9 P F)(hD:zN X D)(u:ai)(ho:ops[i]?=some o)(hw:Region.wanted o (yielded ops T)=true)(L8:aoR P F o=true)(r_:∀z:ah,z.heap=v.heap->(execOp (⟨T,[]⟩:Act).eval o).run P z=.ok (.value u) z)
  (h:yu P X Y D Stop none [] f cs (.inRegion ops rest::k) ((⟨T,[]⟩:Act).put o.dst u).tmps v):yu P X Y D Stop none [] f cs (.inRegion ops (i::rest)::k) T v:=by
 have hd:((⟨T,[]⟩:Act).put o.dst u)=⟨((⟨T,[]⟩:Act).put o.dst u).tmps,[]⟩:=by cases o.dst<;>rfl
 refine amo (a:=⟨T,[]⟩) hF hD ho hw L8 λτ d=>⟨_,r_ _ rfl,?_⟩
 rw[hd];exact λw ⟨τ0,d0,hs⟩=>h w ⟨τ0,d0,hs⟩
theorem DU(ho:ops[i]?=some o)(y:ai):(Dn ro ds f T (.inRegion ops (i::rest)::k)).finish y=Dn ro ds f ((⟨T,[]⟩:Act).put o.dst y).tmps (.inRegion ops rest::k):=by simp only[Frame.finish,Dn,ho,gX,Act.put];cases o.dst<;>rfl
