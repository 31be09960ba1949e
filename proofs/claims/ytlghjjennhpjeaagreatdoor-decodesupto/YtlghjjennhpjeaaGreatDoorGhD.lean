import Derived.Test.YtlghjjennhpjeaaGreatDoorLfD
import Derived.Conc.Beside
import Derived.Conc.CrowdStepC2
set_option maxHeartbeats 1000000
namespace Go.Lf
open Go.Conc
section
variable (P:aP)(F:aU->Bool)
def Ew(S:Y6):Item->Prop
 | .code c=>uz P F S c=true
 | .inBlock _=>True
 | .inLoop c=>uz P F S c=true
 | .inRegion ops _=>ops.all (Fz P F S)=true
 |_=>False
structure Jq(f:aS):Prop where
 fn:∃fn,P.funcs[f.fn]?=some fn
 kind:f.kind=.normal
 defers:f.defers=[]
 round:f.roundOf=none
 todo:∃S,(∀it∈f.todo,Ew P F S it)/\Gw S f.tmps
end
section
variable {P:aP}{F:aU->Bool}{S:Y6}{tmps:aH}
theorem Gw.nil:Gw [] tmps:=λx hx=>by simp at hx
def agF(d:Option Tmp)(tmps:aH)(u:ai):aH:=match d with
 |some d=>tmps.setIfInBounds d u
 |none=>tmps
theorem abq(t d:Nat)(u:ai):(tmps.setIfInBounds d u).getD t undef=if d=t then(if d<tmps.size then u else undef)else tmps.getD t undef:=by
 rw[l7,pO,l7];split
 .split
  .rfl
  .rfl
 .rfl
theorem Gw.un(h:Gw S tmps)(d:Option Tmp):Gw S (agF d tmps undef):=λx hx=>by
 cases d with
 |none=>exact h x hx
 |some d=>
  simp only[agF];rw[abq];split
  .left;split<;>rfl
  .exact h x hx
theorem Gw.put(h:Gw S tmps){o:Oper}{u:ai}(hu:∀x∈S,o.dst=some x.1->u=Go.undef\/∃fs cs,u=.func (.func x.2.1) fs cs/\fs.size+cs.size=x.2.2):Gw S (agF o.dst tmps u):=λx hx=>by
 cases hd:o.dst with
 |none=>exact h x hx
 |some d=>
  simp only[agF];rw[abq];split
  .rename_i e;split
   .exact hu x hx (by rw[hd,e])
   .exact .inl rfl
  .exact h x hx
theorem Zr{o:Oper}(ho:Fz P F S o=true){x:Nat×aU×Nat}(hx:x∈S)(hd:o.dst=some x.1):Rh S x.2 o.op=true:=by unfold Fz at ho;rw[fU]at ho;have:=jB.1 ho.1 x hx;rw[ax (by rw[hd];simp)]at this;exact this
theorem afa{ρ:Operand->ai}(hτ:∀j,ρ (.tmp j)=tmps.getD j undef)(hS:Gw S tmps){o:Oper}{x:aU×Nat}(h:Rh S x o.op=true){v v':ah}{es rF:aN}{n:Next}(hr:(execOp ρ o).runT P v es=(.ok n v',rF)):
  ∃u,n=.value u/\(u=undef\/∃fs cs,u=.func (.func x.1) fs cs/\fs.size+cs.size=x.2):=by
 obtain⟨dst,op,ty,pos,after,guard⟩:=o;cases op
 case move y=>
  cases y
  case tmp j=>
   have h1:(j,x)∈S:=au8;have e:(execOp ρ ⟨dst,.move (.tmp j),ty,pos,after,guard⟩).runT P v es=(.ok (.value (ρ (.tmp j))) v,es):=rfl;exact ayd
  all_goals cases h
 case assign y=>
  cases y
  case tmp j=>
   have h1:(j,x)∈S:=au8;have e:(execOp ρ ⟨dst,.assign (.tmp j),ty,pos,after,guard⟩).runT P v es=(.ok (.value (ρ (.tmp j))) v,es):=rfl;exact ayd
  all_goals cases h
 case makeFunc fn first cap=>
  cases fn
  case func g=>
   have h1:g=x.1/\first.size+cap.size=x.2:=au8;have e:(execOp ρ ⟨dst,.makeFunc (.func g) first cap,ty,pos,after,guard⟩).runT P v es=(.ok (.value (.func (.func g) (first.map ρ) (cap.map ρ))) v,es):=rfl;rw[e]at hr;cases hr;exact⟨_,rfl,.inr ⟨_,_,by rw[h1.1],by simpa using h1.2⟩⟩
  all_goals cases h
 all_goals cases h
theorem Gw.enter{auf:aH}{n k:Nat}(ha:auf.size<=n)(h:∀x∈S,n<=x.1):Gw S (auf++Array.replicate k undef):=λx hx=>by
 have:=h x hx
 left
 rw[l7,Array.getElem?_append_right ag,Array.getElem?_replicate];split<;>rfl
end
def CZ(K:dh)(f:aS):aS:={f with todo:=f.todo++K}
theorem zA(f:aS):CZ [] f=f:=by simp[CZ]
def Ux(X:Nat->Prop)(w:ah)(es:aN):Prop:=∀e∈es,EvP X w e
section
variable {P:aP}{F:aU->Bool}{X:Nat->Prop}{Y:Nat->aZ}
inductive Way (P:aP) (F:aU->Bool) (f:aS) (cs:aT) (w w':ah) (es:aN) (g':aI):Prop
 |here {f':aS}:g'=G f' cs->Jq P F f'->(f'.mode=.run\/f'.mode=.returning)->(∀K z_,(f.todo=[]->K=[])->stepG P true (G (CZ K f) z_) w=.go (G (CZ K f') z_) w' es)->Way P F f cs w w' es g'
 |call {e:aS}:g'=G e (f::cs)->Jq P F e->e.mode=.run->(f.todo≠[]/\∀u,Jq P F (f.finish u))->(∀K z_,stepG P true (G (CZ K f) z_) w=.go (G e (CZ K f::z_)) w' es)->Way P F f cs w w' es g'
 |back {c:aS} {r:aT} {v:ai}:cs=c::r->g'=G (c.finish v) r->f.mode=.returning->(∀c2 r2,stepG P true (G f (c2::r2)) w=.go (G (c2.finish v) r2) w' es)->Way P F f cs w w' es g'
theorem Ie{id:Nat}{K:dh}:∀{k k':dh},exitTo id k=some k'->exitTo id (k++K)=some (k'++K)
 |[],_,h=>by simp[exitTo]at h
 |x::k,k',h=>by
  cases x<;>simp only[exitTo,df]at h⊢ <;>first
   |exact Ie h
   |(split at h
     .rename_i hc;rw[ax hc];cases h;rfl
     .rename_i hc;rw[au hc];exact Ie h)
theorem Ig{id:Nat}:∀{k k':dh},exitTo id k=some k'->∀it∈k',it∈k
 |[],_,h=>by simp[exitTo]at h
 |x::k,k',h=>by
  intro it FM
  cases x<;>simp only[exitTo]at h<;>first
   |exact nH _ (Ig h it FM)
   |(split at h
     .cases h;exact nH _ FM
     .exact nH _ (Ig h it FM))
def Tp(P:aP)(g:aI)(v:ah)(g':aI)(v':ah)(es:aN):Prop:=
 v'.tape=v.tape/\v.drawn<=v'.drawn/\∀τ:Nat->Question->Nat,(∀p,v.drawn<=p->p<v'.drawn->τ p=v.tape p)->stepG P true g {v with tape:=τ}=.go g' {v' with tape:=τ} es
def anr(P:aP)(F:aU->Bool)(X:Nat->Prop)(Y:Nat->aZ)(f:aS)(cs:aT)(w v:ah):Prop:=
 (∃o v' es,stepG P true (G f cs) v=.ended o v' es)\/(∃ch v' es,stepG P true (G f cs) v=.go (G {f with mode:=.panicking ch} cs) v' es)\/
 ∃g' v' es w',stepG P true (G f cs) v=.go g' v' es/\Tp P (G f cs) v g' v' es/\yg X Y w' v'/\w.heap.size<=w'.heap.size/\Ux X w' es/\Way P F f cs w w' es g'
theorem ctl{f f':aS}{cs:aT}{w v:ah}(hs:yg X Y w v)(h:∀K z_ u,(f.todo=[]->K=[])->stepG P true (G (CZ K f) z_) u=.go (G (CZ K f') z_) u #[])(hT:Jq P F f')(hm:f'.mode=.run\/f'.mode=.returning):anr P F X Y f cs w v:=by
 have key:∀u,stepG P true (G f cs) u=.go (G f' cs) u #[]:=λu=>by have:=h [] cs u (λ_=>rfl);rwa[zA,zA]at this
 exact ayb
theorem abr(K:dh)(f:aS):(CZ K f).eval=f.eval:=by
 funext x
 cases x<;>rfl
theorem anj(hF:x9 P F){f:aS}{cs:aT}{w v:ah}(hT:Jq P F f)(hm:f.mode=.run)(hs:yg X Y w v):anr P F X Y f cs w v:=by
 obtain⟨fn,tmps,todo,defers,mode,kind,round⟩:=f;obtain⟨⟨GI,NY⟩,hk,hd,hr,S,ht,hS⟩:=hT;dsimp only at NY hk hd hr ht hS hm;subst hk hd hr hm;have mk:∀{acD:dh}{ajv:FrameMode},(∀it∈acD,Ew P F S it)->Jq P F ⟨fn,tmps,acD,[],ajv,.normal,none⟩:=λh=>⟨⟨GI,NY⟩,rfl,rfl,rfl,S,h,hS⟩
 cases todo with
 |nil=>exact ctl (f':=⟨fn,tmps,[],[],.returning,.normal,none⟩) hs (λK z_ u hK=>by rw[hK rfl];rfl) (mk aA) (.inr rfl)
 |cons it k=>
  have FM:=ht it aA;have hk:∀x∈k,Ew P F S x:=λx hx=>ht x ad2
  have two:∀{a:Item},Ew P F S a->∀x∈a::k,Ew P F S x:=λha x hx=>by
   rcases dK.1 hx with rfl|hx
   .exact ha
   .exact hk x hx
  cases it with
  |code c=>
   cases c with
   |skip=>exact ctl (f':=⟨fn,tmps,k,[],.run,.normal,none⟩) hs (λK z_ u _=>rfl) (mk hk) (.inl rfl)
   |ret=>exact ctl (f':=⟨fn,tmps,.code .ret::k,[],.returning,.normal,none⟩) hs (λK z_ u _=>rfl) (mk ht) (.inr rfl)
   |seq a b=>
    have V7:uz P F S a=true/\uz P F S b=true:=pY
    exact ctl (f':=⟨fn,tmps,.code a::.code b::k,[],.run,.normal,none⟩) hs (λK z_ u _=>rfl) (mk λx hx=>by
     rcases dK.1 hx with rfl|hx
     .exact V7.1
     .exact two (a:=.code b) V7.2 x hx) (.inl rfl)
   |cond c a b=>
    have V7:uz P F S a=true/\uz P F S b=true:=pY;cases he:(⟨fn,tmps,.code (.cond c a b)::k,[],.run,.normal,none⟩:aS).eval c with
    |bool t=>
     refine ctl (f':=⟨fn,tmps,.code (if t then a else b)::k,[],.run,.normal,none⟩) hs (λK z_ u _=>?_) (mk (two (a:=.code (if t then a else b)) (by cases t<;>simp[Ew,V7]))) (.inl rfl);have LM:(CZ K ⟨fn,tmps,.code (.cond c a b)::k,[],.run,.normal,none⟩).eval c=.bool t:=by rw[abr];exact he
     simp only[CZ,df]at LM;simp only[G,CZ,stepG,stepG.exec,df,LM]
    |_=>exact .inl ⟨_,_,_,awh⟩
   |block id c=>exact ctl (f':=⟨fn,tmps,.code c::.inBlock id::k,[],.run,.normal,none⟩) hs (λK z_ u _=>rfl) (mk λx hx=>by
    rcases dK.1 hx with rfl|hx
    .exact FM
    .exact two (a:=.inBlock id) trivial x hx) (.inl rfl)
   |loop c=>exact ctl (f':=⟨fn,tmps,.code c::.inLoop c::k,[],.run,.normal,none⟩) hs (λK z_ u _=>rfl) (mk λx hx=>by
    rcases dK.1 hx with rfl|hx
    .exact FM
    .exact two (a:=.inLoop c) FM x hx) (.inl rfl)
   |exit id=>
    cases he:exitTo id k with
    |none=>exact .inl ⟨_,_,_,awi⟩
    |some k'=>exact ctl (f':=⟨fn,tmps,k',[],.run,.normal,none⟩) hs (λK z_ u _=>by simp only[G,CZ,stepG,stepG.exec,df,Ie he,Option.elim]) (mk λx hx=>hk x (Ig he x hx)) (.inl rfl)
   |region id ops draw=>
    have ho:ops.all (Fz P F S)=true:=FM;cases draw with
    |false=>exact ctl (f':=⟨fn,tmps,.inRegion ops (List.range ops.size)::k,[],.run,.normal,none⟩) hs (λK z_ u _=>rfl) (mk (two (a:=.inRegion ops _) ho)) (.inl rfl)
    |true=>
     have hc:∀u:ah,(choose (.order fn id)).run P u=.ok (u.tape u.drawn (.order fn id)) {u with drawn:=u.drawn+1}:=λu=>rfl
     have et:w.tape w.drawn (.order fn id)=v.tape v.drawn (.order fn id):=awe
     refine .inr (.inr ⟨_,{v with drawn:=v.drawn+1},#[],{w with drawn:=w.drawn+1},awj,⟨rfl,Nat.le_succ _,λτ hτ=>awk⟩,hs.draw,ay _,λe he=>nU,
      .here (f':=⟨fn,tmps,.inRegion ops (Region.schedule (P.follows .mixedOrders) ops (v.tape v.drawn (.order fn id)))::k,[],.run,.normal,none⟩) rfl (mk (two (a:=.inRegion ops _) ho)) (.inl rfl) λK z_ _=>?_⟩)
     simp only[G,CZ,stepG,stepG.exec,df,jD,dm,bU,hc,et]
   |_=>cases FM
  |inBlock id=>exact ctl (f':=⟨fn,tmps,k,[],.run,.normal,none⟩) hs (λK z_ u _=>rfl) (mk hk) (.inl rfl)
  |inLoop c=>exact ctl (f':=⟨fn,tmps,.code c::.inLoop c::k,[],.run,.normal,none⟩) hs (λK z_ u _=>rfl) (mk λx hx=>by
     rcases dK.1 hx with rfl|hx
     .exact FM
     .exact two (a:=.inLoop c) FM x hx) (.inl rfl)
  |inRegion ops is=>
   cases is with
   |nil=>exact ctl (f':=⟨fn,tmps,k,[],.run,.normal,none⟩) hs (λK z_ u _=>rfl) (mk hk) (.inl rfl)
   |cons i rest=>
    have ho:ops.all (Fz P F S)=true:=FM;cases hw:((ops[i]?).map (Region.wanted · (yielded ops tmps))).getD false with
    |false=>
     refine ctl (f':=(⟨fn,tmps,.inRegion ops (i::rest)::k,[],.run,.normal,none⟩:aS).finish undef) hs (λK z_ u _=>?_) ⟨⟨GI,NY⟩,rfl,rfl,rfl,S,two (a:=.inRegion ops _) ho,hS.un _⟩ (.inl rfl);simp only[G,CZ,stepG,stepG.exec,df,hw,dm,bU,Frame.finish]
    |true=>
     cases hoi:ops[i]? with
     |none=>rw[hoi]at hw;cases hw
     |some o=>
      have L8:Fz P F S o=true:=l9.1 ho o (fJ hoi)
      have eA:∀K z_ u,stepG P true (G (CZ K ⟨fn,tmps,.inRegion ops (i::rest)::k,[],.run,.normal,none⟩) z_) u=
        stepG.apply P true (CZ K ⟨fn,tmps,.inRegion ops (i::rest)::k,[],.run,.normal,none⟩) z_ none (execOp (⟨fn,tmps,.inRegion ops (i::rest)::k,[],.run,.normal,none⟩:aS).eval o) u:=λK z_ u=>by
       rw[<-abr K];rw[hoi]at hw;simp only[G,CZ,stepG,stepG.exec,df,stepG.oper,Frame.oper?,hoi];rw[ax hw]
      obtain⟨uD,hlf⟩:=Zo hF (ρ:=(⟨fn,tmps,.inRegion ops (i::rest)::k,[],.run,.normal,none⟩:aS).eval) (λ_=>rfl) (λ_=>rfl) hS L8;have QP:∀{x:aU×Nat}{v v':ah}{es rF:aN}{n:Next},Rh S x o.op=true->(execOp (⟨fn,tmps,.inRegion ops (i::rest)::k,[],.run,.normal,none⟩:aS).eval o).runT P v es=(.ok n v',rF)->∃u,n=.value u/\(u=undef\/∃fs cs,u=.func (.func x.1) fs cs/\fs.size+cs.size=x.2):=λh hr=>afa (λ_=>rfl) hS h hr
      have fin:∀u,(⟨fn,tmps,.inRegion ops (i::rest)::k,[],.run,.normal,none⟩:aS).finish u=⟨fn,agF o.dst tmps u,.inRegion ops rest::k,[],.run,.normal,none⟩:=λu=>by simp only[Frame.finish,hoi,gX];rfl
      generalize execOp (⟨fn,tmps,.inRegion ops (i::rest)::k,[],.run,.normal,none⟩:aS).eval o=sem at eA uD hlf QP;have eA0:=eA [] cs v;rw[zA]at eA0;cases r_:sem.runT P v #[]with
      |mk r es=>
       cases r with
       |halt h v'=>
        have hh:=uD.RY w v #[] h v' es hs r_;cases h with
        |panic u=>
         exact .inr (.inl ⟨_,_,_,mG⟩)
        |stuck s=>exact .inl ⟨_,_,_,mG⟩
        |unsupported u=>
         cases u with
         |initOrder b=>exact hh.elim
         |_=>exact .inl ⟨_,_,_,mG⟩
        |_=>exact hh.elim
       |ok x v'=>
        obtain⟨w',EU,xk,hsz,hev⟩:=uD.VW w v #[] x v' es hs r_;obtain⟨PX,ht2,ht3⟩:=uD.tape v #[] x v' es hs.nv r_
        have eAτ:∀τ:Nat->Question->Nat,stepG P true (G ⟨fn,tmps,.inRegion ops (i::rest)::k,[],.run,.normal,none⟩ cs) {v with tape:=τ}=stepG.apply P true ⟨fn,tmps,.inRegion ops (i::rest)::k,[],.run,.normal,none⟩ cs none sem {v with tape:=τ}:=λτ=>by have:=eA [] cs {v with tape:=τ};rwa[zA]at this
        have Z_:w.heap.size<=w'.heap.size:=avs;have aew:Ux X w' (seen P fn es):=λe he=>(hev e (mem_seen he)).resolve_left aA
        rcases uM sem hlf v #[] x v' es r_ with⟨u,rfl⟩|rfl|⟨f1,auf,hf1,has,rfl⟩
        .refine .inr (.inr ⟨_,_,seen P fn es,w',mJ,⟨PX,ht2,λτ hτ=>mD⟩,xk,Z_,aew,
          .here (f':=(⟨fn,tmps,.inRegion ops (i::rest)::k,[],.run,.normal,none⟩:aS).finish u) rfl awE (.inl rfl) λK z_ _=>?_⟩)
         exact axo
        .refine .inr (.inr ⟨_,_,seen P fn es,w',mJ,⟨PX,ht2,λτ hτ=>mD⟩,xk,Z_,aew,
          .here (f':=(⟨fn,tmps,.inRegion ops (i::rest)::k,[],.run,.normal,none⟩:aS).finish undef) rfl awC (.inl rfl) λK z_ _=>?_⟩)
         exact axo
        .obtain⟨fn1,c1,S1,g1,g2,g3,g4,g5⟩:=hf1
         refine .inr (.inr ⟨_,_,seen P fn es,w',mJ,⟨PX,ht2,λτ hτ=>mD⟩,xk,Z_,aew,
          .call (e:=Frame.enter P f1 auf .normal) rfl ⟨⟨fn1,g1⟩,rfl,rfl,rfl,S1,λx hx=>?_,Gw.enter has g5⟩ rfl ⟨aA,λu=>awD⟩ λK z_=>?_⟩)
         .exact axy
         .rw[eA];simp only[stepG.apply,aY,EU,GStep.after];rfl
  |_=>cases FM
end
section
variable {P:aP}{F:aU->Bool}{X:Nat->Prop}{Y:Nat->aZ}
theorem wM(fn:Func)(tmps:aH):Plain P (results fn tmps):=by
 unfold results;refine qo (Vd (λx=>?_) _) λvs=>qm _
 cases x with
 |tmp t=>exact qm _
 |cell a t=>exact qo (Dy _) λ_=>wO _ _
theorem QU{f c:aS}{r:aT}{w v:ah}(hT:Jq P F f)(hm:f.mode=.returning)(hs:yg X Y w v):(∃o v' es,stepG P true (G f (c::r)) v=.ended o v' es)\/
  ∃y v' es w',stepG P true (G f (c::r)) v=.go (G (c.finish y) r) v' es/\Tp P (G f (c::r)) v (G (c.finish y) r) v' es/\yg X Y w' v'/\w.heap.size<=w'.heap.size/\Ux X w' es/\∀c2 r2,stepG P true (G f (c2::r2)) w=.go (G (c2.finish y) r2) w' es:=by
 obtain⟨fn,tmps,todo,defers,mode,kind,round⟩:=f;obtain⟨⟨GI,NY⟩,hk,hd,hr,ht⟩:=hT;dsimp only at NY hk hd hr ht hm;subst hk hd hr hm;have uD:=wM (P:=P) GI tmps
 have eA:∀c2 r2 u,stepG P true (G ⟨fn,tmps,todo,[],.returning,.normal,none⟩ (c2::r2)) u=
   GStep.after (seen P fn ((results GI tmps).runT P u #[]).2) (match((results GI tmps).runT P u #[]).1 with
    | .ok v w=>doReturn P true ⟨fn,tmps,todo,[],.returning,.normal,none⟩ (c2::r2) none v w
    | .halt (.stuck s) w=>.ended (.stuck s (Frame.pos P ⟨fn,tmps,todo,[],.returning,.normal,none⟩)) w
    | .halt _ w=>.ended (.stuck "return: the result variables cannot be read" (Frame.pos P ⟨fn,tmps,todo,[],.returning,.normal,none⟩)) w):=λc2 r2 u=>by
  simp only[G,stepG,unwind,NY];rfl
 cases r_:(results GI tmps).runT P v #[]with
 |mk x es=>
  cases x with
  |halt h v'=>
   refine .inl ?_;rw[eA,r_];cases h<;>exact⟨_,_,_,rfl⟩
  |ok y v'=>
   obtain⟨w',EU,xk,hsz,hev⟩:=vP _ w v #[] y v' es uD hs r_;have Z_:w.heap.size<=w'.heap.size:=avs;obtain⟨PX,ht2,ht3⟩:=wG _ v #[] y v' es uD hs.nv r_;refine .inr ⟨y,_,seen P fn es,w',by rw[eA,r_];simp only[doReturn,GStep.after];rfl,⟨PX,ht2,λτ hτ=>by rw[eA,ht3 τ hτ];simp only[doReturn,GStep.after];rfl⟩,xk,Z_,λe he=>(hev e (mem_seen he)).resolve_left aA,λc2 r2=>?_⟩;rw[eA,EU];simp only[doReturn,GStep.after];rfl
def f0:aS:={fn:=0,tmps:=#[],todo:=[.code (.refuse "")],defers:=[{target:=.nil,args:=#[]}],mode:=.run,kind:=.normal}
theorem aoZ(u:ah):∃o v es,stepG P true (G f0 []) u=.ended o v es:=⟨_,_,_,rfl⟩
theorem afb(ch:List PanicEntry)(u:ah):∃o v es,stepG P true (G {f0 with mode:=.panicking ch} []) u=.ended o v es:=⟨_,_,_,rfl⟩
def Stack(P:aP)(F:aU->Bool):aT->Prop
 |[]=>True
 |c::r=>(Jq P F c/\c.mode=.run/\c.todo≠[]/\(∀v,Jq P F (c.finish v)/\(c.finish v).mode=.run/\∀K,(CZ K c).finish v=CZ K (c.finish v)))/\Stack P F r
theorem P_{c:aS}(hT:Jq P F c)(hm:c.mode=.run)(hne:c.todo≠[]/\∀u,Jq P F (c.finish u)):∀v,Jq P F (c.finish v)/\(c.finish v).mode=.run/\∀K,(CZ K c).finish v=CZ K (c.finish v):=by
 intro v;refine⟨hne.2 v,?_⟩;replace hne:=hne.1;obtain⟨fn,tmps,todo,defers,mode,kind,round⟩:=c;obtain⟨h1,hk,hd,hr,S,ht,_⟩:=hT;dsimp only at h1 hk hd hr ht hm hne;subst hk hd hr hm;cases todo with
 |nil=>exact absurd rfl hne
 |cons it k=>
  have FM:=ht it aA;cases it with
  |inRegion ops is=>
   cases is with
   |nil=>exact⟨rfl,λK=>rfl⟩
   |cons i rest=>exact⟨rfl,λK=>rfl⟩
  |code c=>exact⟨rfl,λK=>rfl⟩
  |inBlock id=>exact⟨rfl,λK=>rfl⟩
  |inLoop c=>exact⟨rfl,λK=>rfl⟩
  |_=>cases FM
def ajd(K:dh)(cs:aT):aT->aT
 |[]=>cs
 |[b]=>CZ K b::cs
 |c::d::r=>c::ajd K cs (d::r)
inductive ao0 (P:aP) (X:Nat->Prop):aI->ah->aI->ah->Prop
 |refl (g:aI) (w:ah):ao0 P X g w g w
 |step {g g' g'':aI} {w w' w'':ah} {es:aN}:g.status=.running->stepG P true g w=.go g' w' es->Ux X w' es->w.heap.size<=w'.heap.size->ao0 P X g' w' g'' w''->ao0 P X g w g'' w''
def Gs(P:aP)(n:Nat)(f:aS)(cs:aT)(v:ah)(f':aS)(cs':aT)(v':ah):Prop:=runN P n (lone f cs v)=.next (lone f' cs' v')
theorem wY{n:Nat}{f f1 f':aS}{cs cs1 cs':aT}{v v1 v':ah}{es:aN}(he:stepG P true (G f cs) v=.go (G f1 cs1) v1 es)(h:Gs P (n+1) f cs v f' cs' v'):Gs P n f1 cs1 v1 f' cs' v':=by have:step P (lone f cs v)=.next (lone f1 cs1 v1):=step_lone_go aws;unfold Gs at h;rw[runN,this]at h;exact h
theorem x_{n:Nat}{f f':aS}{cs cs':aT}{v v1 v':ah}{o:Outcome}{es:aN}(he:stepG P true (G f cs) v=.ended o v1 es):¬Gs P (n+1) f cs v f' cs' v':=by have:step P (lone f cs v)=.ended o v1:=step_lone_ended aws;intro h;unfold Gs at h;rw[runN,this]at h;cases h
theorem zy{f f':aS}{cs cs':aT}{v v':ah}(h:Gs P 0 f cs v f' cs' v'):f=f'/\cs=cs'/\v=v':=by unfold Gs at h;rw[runN]at h;simp only[lone,Stepped.next.injEq,Machine.mk.injEq]at h;obtain⟨h1,h2,_⟩:=h;simp at h2;exact⟨h2.1,h2.2,h1⟩
theorem U6:∀(n:Nat)(f:aS)(r:aT)(ch:List PanicEntry)(v:ah)(f':aS)(r':aT)(v':ah),(∀c∈r,Jq P F c/\c.mode=.run)->f.mode=.panicking ch->((∃fn,P.funcs[f.fn]?=some fn)/\f.defers=[])->f'.mode=.run->
  ¬Gs P n f (r++[f0]) v f' r' v'
 |0,f,r,ch,v,f',r',v',_,hm,_,Tf,h=>by obtain⟨rfl,_⟩:=zy h;rw[Tf]at hm;cases hm
 |n+1,f,r,ch,v,f',r',v',hr,hm,⟨⟨fn,NY⟩,hd⟩,Tf,h=>by
  have ajw:f.catches P=false:=awd;cases r with
  |nil=>
   have e:stepG P true (G f ([]++[f0])) v=.go (G (f0.raise ch) []) v #[]:=by simp only[dw,G,stepG,hm,unwind,hd,ajw,dm,bU]
   have h2:=wY e h;cases n with
   |zero=>
    obtain⟨h3,_⟩:=zy h2;rw[<-h3]at Tf;cases Tf
   |succ n=>
    obtain⟨o,v1,es,he⟩:=afb (P:=P) ch v;exact x_ (show stepG P true (G (f0.raise ch) []) v=_ from he) h2
  |cons c r=>
   have e:stepG P true (G f (c::r++[f0])) v=.go (G (c.raise ch) (r++[f0])) v #[]:=by simp only[df,G,stepG,hm,unwind,hd,ajw,dm,bU]
   have h2:=wY e h;obtain⟨hc,sJ⟩:=hr c aA;have er:c.raise ch={c with mode:=.panicking ch}:=by simp[Frame.raise,sJ]
   rw[er]at h2;exact U6 n {c with mode:=.panicking ch} r ch v f' r' v' (λx hx=>hr x ad2) rfl ⟨hc.fn,hc.defers⟩ Tf h2
def agz(K:dh)(cs:aT)(f:aS)(r:aT):aI:=
 match r with
 |[]=>G (CZ K f) cs
 |c::r=>G f (ajd K cs (c::r))
theorem KQ:∀{r:aT},Stack P F r->∀c∈r,Jq P F c/\c.mode=.run
 |[],_,c,h=>by simp at h
 |d::r,hS,c,h=>by
  rcases dK.1 h with rfl|h
  .exact⟨hS.1.1,hS.1.2.1⟩
  .exact KQ hS.2 c h
theorem Uy(n:Nat)(v:ah)(fz:aS)(v':ah):¬Gs P n f0 [] v fz [f0] v':=by
 intro h;cases n with
 |zero=>exact absurd (zy h).2.1 aA
 |succ n=>
  obtain⟨o,v1,es,he⟩:=aoZ (P:=P) v;exact x_ he h
end
end Go.Lf
namespace Go.Gh
def _root_.Go.World.out(w:ah)(x:Array (Nat×ByteArray)):ah:={w with output:=x}
def _root_.Go.Result.out{α:Type}(r:Result α)(x:Array (Nat×ByteArray)):Result α:=
 match r with
 | .ok a w=>.ok a (w.out x)
 | .halt h w=>.halt h (w.out x)
def _root_.Go.GStep.out(s:GStep)(x:Array (Nat×ByteArray)):GStep:=
 match s with
 | .go g w es=>.go g (w.out x) es
 | .comm g c b sh w es=>.comm g c b sh (w.out x) es
 | .spawn g c w es=>.spawn g c (w.out x) es
 | .count g w es=>.count g (w.out x) es
 | .timer g o w es=>.timer g o (w.out x) es
 | .alone g o w es=>.alone g o (w.out x) es
 | .newcoro g c d w es=>.newcoro g c d (w.out x) es
 | .coroswitch g c e w es=>.coroswitch g c e (w.out x) es
 | .collect g w es=>.collect g (w.out x) es
 | .watch g w es=>.watch g (w.out x) es
 | .ended o w es=>.ended o (w.out x) es
section
variable (w:ah)(x:Array (Nat×ByteArray))
@[simp] theorem Lr (a:Addr):(w.out x).cell? a=w.cell? a:=rfl
@[simp] theorem ao1 (r:Nat):(w.out x).shape? r=w.shape? r:=rfl
@[simp] theorem ant (a:Addr):(w.out x).frozen? a=w.frozen? a:=rfl
@[simp] theorem Ri (a:Addr) (v:ai):(w.out x).setCell a v=(w.setCell a v).out x:=rfl
theorem Ve(a:Addr)(n:Nat):(w.out x).freeze a n=(w.freeze a n).out x:=by unfold World.freeze;split<;>rfl
@[simp] theorem Ey:(w.out x).heap=w.heap:=rfl
@[simp] theorem abt:(w.out x).tape=w.tape:=rfl
@[simp] theorem XT:(w.out x).drawn=w.drawn:=rfl
@[simp] theorem ao2:(w.out x).os=w.os:=rfl
theorem Rj(p:aP)(a:Addr)(b:Bool):(w.out x).farLoad p a b=w.farLoad p a b:=rfl
theorem Wu(p:aP)(at_:Addr)(u:aG)(k:Addr)(v:ai)(b:Bool):
  (w.out x).viewStore p at_ u k v b=(w.viewStore p at_ u k v b).map λ(w',t)=>(w'.out x,t):=by
 unfold World.viewStore;have e:(w.out x).seen p at_ u k b=w.seen p at_ u k b:=rfl;rw[e];cases (!tight p p.depth u)
 .simp only[dm,bU];cases w.seen p at_ u k b with
  |error y=>rfl
  |ok y=>
   obtain⟨c,e,fz,first,like,cells⟩:=y;simp only[bind,Except.bind,pure,Except.pure];cases v.bytes? with
   |none=>rfl
   |some bs=>
    simp only;split
    .rfl
    .split<;>rfl
 .rfl
theorem O3(p:aP)(a:Addr)(v:ai)(b:Bool):(w.out x).farStore p a v b=(w.farStore p a v b).map λ(w',t)=>(w'.out x,t):=by
 unfold World.farStore;simp only[Ey];split
 .rw[Wu];cases w.viewStore p _ _ a v b<;>rfl
 .rfl
theorem amz{α:Type}(k:Ask α):∀w:ah,(w.out x).ask k=((w.ask k).1,(w.ask k).2.out x):=by
 induction k with
 |done a=>intro w;rfl
 |ask what range k ih=>
  intro w;simp only[World.ask];split
  .exact ih 0 w
  .exact ih _ {w with drawn:=w.drawn+1}
theorem Zt(c:Sys):(w.out x).sys c=((w.sys c).1,(w.sys c).2.out x):=by unfold World.sys;rw[amz];simp only[ao2];generalize w.ask (Kernel.perform c w.os)=q;obtain⟨⟨r,os⟩,w'⟩:=q;cases r<;>rfl
theorem Ls{α:Type}(p:aP)(s:Sem α):∀w:ah,s.run p (w.out x)=(s.run p w).out x:=by
 induction s with
 |pure a=>intro w;rfl
 |load m a k ih=>
  intro w;simp only[Sem.run,Lr];split
  .exact ih _ w
  .rw[Rj];split
   .exact ih _ w
   .rfl
 |store m a v k ih=>
  intro w
  have key:(match(w.out x).cell? a with
   |some _=>if(w.out x).frozen? a then .halt (.unsupported (.unsafePointer "a write to bytes that a string shares")) (w.out x)else k.run p ((w.out x).setCell a v)
   |none=>match(w.out x).farStore p a v (m==.atomic)with
    | .ok (w,_)=>k.run p w
    | .error h=>.halt h (w.out x))=((match w.cell? a with
   |some _=>if w.frozen? a then .halt (.unsupported (.unsafePointer "a write to bytes that a string shares")) w else k.run p (w.setCell a v)
   |none=>match w.farStore p a v (m==.atomic)with
    | .ok (w,_)=>k.run p w
    | .error h=>.halt h w:Result α)).out x:=by
   simp only[Lr,Ri];split
   .by_cases hz:w.frozen? a=true
    .exact axS
    .rw[au (show¬(w.out x).frozen? a=true from hz),au hz];exact ih _
   .rw[O3];cases w.farStore p a v (m==.atomic)with
    |error h=>rfl
    |ok y=>exact ih _
  cases v<;>first|exact key|rfl
 |new o k ih=>intro w;exact ih w.heap.size {w with heap:=w.heap.push o}
 |shape r k ih=>intro w;exact ih _ _
 |freeze a n k ih=>intro w;simp only[Sem.run,Ve];exact ih _
 |frozen a k ih=>intro w;exact ih _ _
 |getObj r k ih=>
  intro w;simp only[Sem.run,Ey];split
  .rfl
  .exact ih _ _
  .rfl
 |setObj r o k ih=>
  intro w;simp only[Sem.run,Ey];split
  .rfl
  .exact ih {w with heap:=w.heap.setIfInBounds r o}
  .rfl
 |choose q k ih=>
  intro w;simp only[Sem.run,abt,XT];split
  .exact ih _ _
  .exact ih _ {w with drawn:=w.drawn+1}
 |sys c k ih=>
  intro w;simp only[Sem.run,Zt];exact ih _ _
 |program k ih=>intro w;exact ih _ _
 |mark m k ih=>intro w;exact ih _
 |halt h=>intro w;rfl
theorem AO{α:Type}(p:aP)(s:Sem α):∀(w:ah)(es:aN),s.runT p (w.out x) es=((s.runT p w es).1.out x,(s.runT p w es).2):=by
 induction s with
 |pure a=>intro w es;rfl
 |load m a k ih=>
  intro w es;simp only[Sem.runT,Lr];split
  .exact ih _ w _
  .rw[Rj];split
   .exact ih _ w _
   .rfl
 |store m a v k ih=>
  intro w es
  have key:(match(w.out x).cell? a with
   |some _=>if(w.out x).frozen? a then(.halt (.unsupported (.unsafePointer "a write to bytes that a string shares")) (w.out x),es)else k.runT p ((w.out x).setCell a v) (es.push ⟨.cell a,true,m==.atomic⟩)
   |none=>match(w.out x).farStore p a v (m==.atomic)with
    | .ok (w,touched)=>k.runT p w (es++touched.toArray.map (⟨.cell ·,true,m==.atomic⟩))
    | .error h=>(.halt h (w.out x),es))=((match w.cell? a with
   |some _=>if w.frozen? a then(.halt (.unsupported (.unsafePointer "a write to bytes that a string shares")) w,es)else k.runT p (w.setCell a v) (es.push ⟨.cell a,true,m==.atomic⟩)
   |none=>match w.farStore p a v (m==.atomic)with
    | .ok (w,touched)=>k.runT p w (es++touched.toArray.map (⟨.cell ·,true,m==.atomic⟩))
    | .error h=>(.halt h w,es):Result α×aN).1.out x,(match w.cell? a with
   |some _=>if w.frozen? a then(.halt (.unsupported (.unsafePointer "a write to bytes that a string shares")) w,es)else k.runT p (w.setCell a v) (es.push ⟨.cell a,true,m==.atomic⟩)
   |none=>match w.farStore p a v (m==.atomic)with
    | .ok (w,touched)=>k.runT p w (es++touched.toArray.map (⟨.cell ·,true,m==.atomic⟩))
    | .error h=>(.halt h w,es):Result α×aN).2):=by
   simp only[Lr,Ri];split
   .by_cases hz:w.frozen? a=true
    .exact axS
    .rw[au (show¬(w.out x).frozen? a=true from hz),au hz];exact ih _ _
   .rw[O3];cases w.farStore p a v (m==.atomic)with
    |error h=>rfl
    |ok y=>exact ih _ _
  cases v<;>first|exact key|rfl
 |new o k ih=>intro w es;exact ih w.heap.size {w with heap:=w.heap.push o} es
 |shape r k ih=>intro w es;exact ih _ _ _
 |freeze a n k ih=>intro w es;simp only[Sem.runT,Ve];exact ih _ _
 |frozen a k ih=>intro w es;exact ih _ _ _
 |getObj r k ih=>
  intro w es;simp only[Sem.runT,Ey];split
  .rfl
  .exact ih _ _ _
  .rfl
 |setObj r o k ih=>
  intro w es;simp only[Sem.runT,Ey];split
  .rfl
  .exact ih {w with heap:=w.heap.setIfInBounds r o} _
  .rfl
 |choose q k ih=>
  intro w es;simp only[Sem.runT,abt,XT];split
  .exact ih _ _ _
  .exact ih _ {w with drawn:=w.drawn+1} _
 |sys c k ih=>
  intro w es;simp only[Sem.runT,Zt];exact ih _ _ _
 |program k ih=>intro w es;exact ih _ _ _
 |mark m k ih=>intro w es;exact ih _ _
 |halt h=>intro w es;rfl
end
section
variable (p:aP)(x:Array (Nat×ByteArray))
theorem Ac(es:aN)(s:GStep):(GStep.after es s).out x=GStep.after es (s.out x):=by cases s<;>rfl
theorem O4(fr:aS)(m:String)(w:ah):endThrow fr m (w.out x)=(endThrow fr m w).out x:=rfl
theorem IV(fr:aS)(v:ai)(w:ah):endPrinting p fr v (w.out x)=(endPrinting p fr v w).out x:=by unfold endPrinting;dsimp only;split<;>rfl
theorem O5(fr:aS)(cs:aT)(d:Option Dying)(m:String)(w:ah):endFatal p fr cs d m (w.out x)=(endFatal p fr cs d m w).out x:=by
 unfold endFatal;dsimp only;rw[Ls];generalize Sem.run p _ w=r;cases r with
 |ok a w=>rfl
 |halt h w=>cases h<;>rfl
theorem abu(w:ah)(fd:Nat)(t:ByteArray)(o:Outcome):endWith (w.out x) fd t o=(endWith w fd t o).out x:=by unfold endWith;rw[Zt];generalize w.sys (.write fd t)=q;obtain⟨r,w'⟩:=q;cases r<;>(dsimp only;try split)<;>rfl
theorem abv(fr:aS)(d:Dying)(f:Fatal)(w:ah):writeOn p fr d f (w.out x)=(writeOn p fr d f w).out x:=by
 unfold writeOn;dsimp only;split
 .rfl
 .rw[AO];generalize Sem.runT p _ w #[]=r;obtain⟨r,es⟩:=r;cases r with
  |ok a w=>rfl
  |halt h w=>cases h<;>rfl
theorem amA(fr:aS)(d:Dying)(w:ah):die p fr d (w.out x)=(die p fr d w).out x:=by
 unfold die;split
 .exact abv p x _ _ _ _
 .split
  .show(if printLockHeld p w then _ else _)=_;split
   .rfl
   .exact abu x _ _ _ _
  .dsimp only;split
   .rfl
   .exact ayv
   .rw[AO];generalize Sem.runT p _ w #[]=r;obtain⟨r,es⟩:=r;dsimp only;rw[Ac]
    congr 1
    cases r with
    |ok a w=>
     cases a<;>try rfl
     rename_i v;cases v<;>rfl
    |halt h w=>cases h<;>first|rfl|exact IV p x _ _ _
   .rfl
theorem Ih(main:Bool)(fr:aS)(cs:aT)(d:Option Dying)(v:ai)(w:ah):doReturn p main fr cs d v (w.out x)=(doReturn p main fr cs d v w).out x:=by
 unfold doReturn;cases cs with
 |cons c rest=>dsimp only;cases fr.kind<;>rfl
 |nil=>
  dsimp only;split
  .rfl
  .rfl
  .split
   .rfl
   .split<;>rfl
theorem XU(w:ah):∀(n:Nat)(f:aU),p.found (w.out x) n f=p.found w n f
 |0,_=>rfl
 |n+1,f=>by unfold Program.found;simp only[XU w n];rfl
theorem Rk(w:ah):∀(n:Nat)(l s:List aU),p.brought (w.out x) n l s=p.brought w n l s
 |0,_,_=>rfl
 |n+1,[],s=>rfl
 |n+1,f::l,s=>by unfold Program.brought;simp only[Rk w n];rfl
theorem agG(fr:aS)(cs:aT)(d:Option Dying)(g:Nat)(w:ah):early p fr cs d g (w.out x)=(early p fr cs d g w).out x:=by
 have ny:∀w:ah,(match(w.out x).heap[g]? with
  |some (.pending c elem)=>(.go {frame:=fr,callers:=cs,status:=.running,dying:=d} {w.out x with heap:=(w.out x).heap.setIfInBounds g (.cells c elem)}:GStep)
  |_=>.ended (.stuck "early: the variable does not wait" (fr.pos p)) (w.out x))=(match w.heap[g]? with
  |some (.pending c elem)=>(.go {frame:=fr,callers:=cs,status:=.running,dying:=d} {w with heap:=w.heap.setIfInBounds g (.cells c elem)}:GStep)
  |_=>.ended (.stuck "early: the variable does not wait" (fr.pos p)) w).out x:=by
  intro w;simp only[Ey];split<;>rfl
 unfold early;dsimp only;simp only[XU,Rk];split
 .exact ny w
 .split
  .rfl
  .split
   .exact ny w
   .split
    .rename_i h;rw[ax (show(((p.code? _).bind λc=>(readies c).getLast?).bind w.shape?).isSome=true from h)];exact ny w
    .rename_i h;rw[au (show¬(((p.code? _).bind λc=>(readies c).getLast?).bind w.shape?).isSome=true from h)];split
     .rfl
     .rfl
     .rfl
     .exact ny w
     .split
      .rfl
      .split
       .exact ny w
       .rw[Ls];generalize Sem.run p _ w=r;cases r with
        |ok a w=>cases a<;>first|exact ny w|(dsimp only[Result.out];rfl)
        |halt h w=>rfl
end
section
variable (p:aP)(x:Array (Nat×ByteArray))
theorem Ii{c:Prop}[Decidable c]{a b a' b':GStep}(h:a'=a.out x)(h':b'=b.out x):(if c then a' else b')=(if c then a else b).out x:=by
 by_cases hc:c
 .rw[ax hc,ax hc];exact h
 .rw[au hc,au hc];exact h'
theorem Ql(fr:aS)(cs:aT)(d:Option Dying)(c:Deferred)(w:ah):callDeferred p fr cs d c (w.out x)=(callDeferred p fr cs d c w).out x:=by
 unfold callDeferred;refine Ii x rfl ?_;rw[AO];generalize Sem.runT p _ w #[]=r;obtain⟨r,es⟩:=r;dsimp only;rw[Ac];cases r with
 |ok a w=>
  dsimp only[Result.out];refine bI _ ?_;cases a with
  |recover=>dsimp only;split<;>rfl
  |alone b v=>cases b<;>rfl
  |coroswitch c e=>cases e<;>rfl
  |_=>rfl
 |halt h w=>
  cases h with
  |fatal m=>exact bI _ (O5 p x _ _ _ _ _)
  |throw m=>exact bI _ (O4 x _ _ _)
  |_=>rfl
theorem adB(main:Bool)(fr:aS)(cs:aT)(d:Option Dying)(w:ah):unwind p main fr cs d (w.out x)=(unwind p main fr cs d w).out x:=by
 unfold unwind;split
 .rw[AO];generalize Sem.runT p _ w #[]=r;obtain⟨r,es⟩:=r;dsimp only;rw[Ac];cases r<;>rfl
 .exact Ql p x _ _ _ _ _
 .cases fr.mode with
  |run=>rfl
  |panicking chain=>
   refine Ii x rfl ?_;cases cs with
   |cons c rest=>rfl
   |nil=>
    cases d with
    |none=>
     refine Ii x rfl ?_;rw[Ls];generalize Sem.run p _ w=r;cases r with
     |ok a w=>rfl
     |halt h w=>cases h<;>rfl
    |some d=>
     dsimp only;split
     .exact IV p x _ _ _
     .rfl
  |returning=>
   dsimp only;split
   .exact Ih p x _ _ _ _ _ _
   .rw[AO];generalize Sem.runT p _ w #[]=r;obtain⟨r,es⟩:=r;dsimp only;rw[Ac];cases r with
    |ok a w=>exact bI _ (Ih p x _ _ _ _ _ _)
    |halt h w=>cases h<;>rfl
theorem GK(listen:Bool)(fr:aS)(cs:aT)(d:Option Dying)(s:Sem Next)(w:ah):stepG.apply p listen fr cs d s (w.out x)=(stepG.apply p listen fr cs d s w).out x:=by
 unfold stepG.apply
 have e:(if listen=true then s.runT p (w.out x) #[]else(s.run p (w.out x),#[]))=((if listen=true then s.runT p w #[]else(s.run p w,#[])).1.out x,(if listen=true then s.runT p w #[]else(s.run p w,#[])).2):=by
  cases listen
  .simp only[dm,bU,Ls]
  .simp only[aY,AO]
 rw[e];generalize(if listen=true then s.runT p w #[]else(s.run p w,#[]))=r;obtain⟨r,es⟩:=r;dsimp only;rw[Ac];cases r with
 |ok a w=>
  dsimp only[Result.out];refine bI _ ?_;cases a with
  |callThen d r s wr=>dsimp only;split<;>rfl
  |row r auf=>dsimp only;split<;>rfl
  |stack r s=>dsimp only;split<;>rfl
  |recover=>dsimp only;split<;>rfl
  |spawn d=>exact Ii x rfl rfl
  |_=>rfl
 |halt h w=>
  cases h with
  |fatal m=>exact bI _ (O5 p x _ _ _ _ _)
  |throw m=>exact bI _ (O4 x _ _ _)
  |unsupported u=>
   cases u with
   |initOrder g=>exact bI _ (agG p x _ _ _ _ _)
   |_=>rfl
  |_=>rfl
theorem ajx(listen:Bool)(fr:aS)(cs:aT)(d:Option Dying)(w:ah):stepG.oper p listen fr cs d (w.out x)=(stepG.oper p listen fr cs d w).out x:=by
 unfold stepG.oper;cases fr.oper? with
 |none=>rfl
 |some o=>
  dsimp only;split<;>exact GK p x _ _ _ _ _ _
def adC(main:Bool)(fr:aS)(cs:aT)(d:Option Dying)(w:ah)(jump:Option Code):GStep:=
 match fr.roundOf with
 |none=>if jump matches none|some .ret then .go {frame:={fr with mode:=.returning},callers:=cs,status:=.running,dying:=d} w else .ended (.stuck "exit, goto: no such block or label" (fr.pos p)) w
 |some l=>
  let(r,es):=(Instr.endRound l jump).runT p w #[]
  GStep.after (seen p fr.fn es)<|match r with
  | .ok v w=>doReturn p main fr cs d v w
  | .halt _ w=>.ended (.stuck "range over a function: no such loop" (fr.pos p)) w
theorem Ij(main:Bool)(fr:aS)(cs:aT)(d:Option Dying)(w:ah)(jump:Option Code):adC p main fr cs d (w.out x) jump=(adC p main fr cs d w jump).out x:=by
 unfold adC;cases fr.roundOf with
 |none=>exact Ii x rfl rfl
 |some l=>
  dsimp only;rw[AO];generalize Sem.runT p _ w #[]=r;obtain⟨r,es⟩:=r;dsimp only;rw[Ac];cases r with
  |ok a w=>exact bI _ (Ih p x _ _ _ _ _ _)
  |halt h w=>rfl
theorem ajy(main listen:Bool)(fr:aS)(cs:aT)(d:Option Dying)(w:ah):stepG.exec p main listen fr cs d (w.out x)=(stepG.exec p main listen fr cs d w).out x:=by
 unfold stepG.exec
 extract_lets go to lost leave to' atw as3
 split
 .exact Ij p x main fr cs d w none
 .exact Ij p x main fr cs d w (some .ret)
 .rfl
 .rfl
 .rfl
 .rfl
 .rfl
 .split<;>rfl
 .rfl
 .rfl
 .rfl
 .rfl
 .cases exitTo _ _ with
  |none=>exact Ij p x main fr cs d w (some (.exit _))
  |some k=>rfl
 .cases gotoIn _ _ with
  |none=>exact Ij p x main fr cs d w (some (.goto _))
  |some k=>rfl
 .rw[AO];generalize Sem.runT p _ w #[]=r;obtain⟨r,es⟩:=r;dsimp only;rw[Ac];cases r with
  |ok a w=>exact bI _ (GK p x _ _ _ _ _ _)
  |halt h w=>rfl
 .rfl
 .exact GK p x _ _ _ _ _ _
 .rw[AO];generalize Sem.runT p _ w #[]=r;obtain⟨r,es⟩:=r;dsimp only;rw[Ac];cases r with
  |ok a w=>rfl
  |halt h w=>cases h<;>rfl
 .rfl
 .exact GK p x _ _ _ _ _ _
 .cases Extern.next _ with
  |none=>rfl
  |some e=>exact GK p x _ _ _ _ _ _
 .refine Ii x rfl ?_;exact ayv
 .rfl
 .exact Ii x (ajx p x _ _ _ _ _) rfl
theorem Lt(main:Bool)(g:aI)(w:ah):stepG p main g (w.out x)=(stepG p main g w).out x:=by
 obtain⟨fr,cs,st,d,of⟩:=g;unfold stepG;dsimp only;split
 .exact amA p x _ _ _
 .exact ajy p x _ _ _ _ _ _
 .exact adB p x _ _ _ _ _
theorem Ik{main:Bool}{g g':aI}{w w':ah}{es:aN}(h:stepG p main g (w.out x)=.go g' w' es):stepG p main g w=.go g' (w'.out w.output) es/\w'.output=x:=by
 have h1:=Lt p x main g w;rw[h]at h1;have h2:=Lt p w.output main g w;rw[show w.out w.output=w from rfl]at h2;cases hs:stepG p main g w with
 |go g1 w1 LZ=>
  rw[hs]at h1 h2;simp only[GStep.out,GStep.go.injEq]at h1 h2⊢;obtain⟨rfl,rfl,rfl⟩:=h1;exact⟨⟨rfl,h2.2.1,rfl⟩,rfl⟩
 |_=>rw[hs]at h1;cases h1
theorem SA{main:Bool}{g g' c:aI}{w w':ah}{es:aN}(h:stepG p main g (w.out x)=.spawn g' c w' es):stepG p main g w=.spawn g' c (w'.out w.output) es/\w'.output=x:=by
 have h1:=Lt p x main g w;rw[h]at h1;have h2:=Lt p w.output main g w;rw[show w.out w.output=w from rfl]at h2;cases hs:stepG p main g w with
 |spawn g1 c1 w1 LZ=>
  rw[hs]at h1 h2;simp only[GStep.out,GStep.spawn.injEq]at h1 h2⊢;obtain⟨rfl,rfl,rfl,rfl⟩:=h1;exact⟨⟨rfl,rfl,h2.2.2.1,rfl⟩,rfl⟩
 |_=>rw[hs]at h1;cases h1
end
end Go.Gh
namespace Go.Gh
open Go.Conc Go.ConcN
open Go.ConcR (Payload)
def IM(w:ah):Nat:=match w.output.toList with|[]=>0|(t,_)::_=>t
def Uf(w:ah):aC:=(w.output.toList.drop 1).map (·.1)
def book(t:Nat)(l:aC):Array (Nat×ByteArray):=((t,ByteArray.empty)::l.map λb=>(b,ByteArray.empty)).toArray
theorem xE(w:ah)(t:Nat)(l:aC):IM (w.out (book t l))=t:=by simp[IM,book,World.out]
theorem vM(w:ah)(t:Nat)(l:aC):Uf (w.out (book t l))=l:=by simp[Uf,book,World.out,Function.comp_def]
def qQ(w:ah)(b:Nat):Prop:=b∈Uf w\/(IM w<=b/\b<w.heap.size)
def gw(w:ah)(l:aC):ah:=w.out (book w.heap.size l)
theorem yU(w:ah)(l:aC)(b:Nat):qQ (gw w l) b↔b∈l:=by unfold qQ gw;rw[vM,xE];exact⟨λh=>h.elim id λh=>absurd h.2 (by simp only[Ey];omega),.inl⟩
class qR where
 old:Nat->Prop
class rJ where
 el:Nat
 ts:Nat
section
variable [Payload](Wg C n B:Nat)(Cl:Nat->Prop)
structure Ro(w w₁:ah):Prop where
 size:w.heap.size<=w₁.heap.size
 tape:w₁.tape=w.tape
 os:w₁.os=w.os
 tag:IM w₁=w₁.heap.size
 own:∀b,b∈Uf w₁↔qQ w b
 low:∀b,b<B->b≠Wg->b≠C->w₁.heap[b]?=w.heap[b]?
 mine:∀b,qQ w b->w₁.heap[b]?=w.heap[b]?
 cell:∀i,Cl i->w₁.cell? ⟨C,i,none⟩=w.cell? ⟨C,i,none⟩
 pay:PayAt C n w->PayAt C n w₁
variable [qR]
def EvG(w w':ah)(e:Event):Prop:=∃a wr,e=⟨.cell a,wr,false⟩/\a.block<w'.heap.size/\
 (qQ w a.block\/w.heap.size<=a.block\/(∃i,a=⟨C,i,none⟩/\Cl i)\/(a.block<B/\a.block≠Wg/\a.block≠C/\wr=false/\¬qR.old a.block))
structure Dg(w w':ah)(es:aN):Prop where
 size:w.heap.size<=w'.heap.size
 tape:w'.tape=w.tape
 os:w'.os=w.os
 frame:∀b,b<w.heap.size->¬qQ w b->b≠C->w'.heap[b]?=w.heap[b]?
 cells:∀i,¬Cl i->w'.cell? ⟨C,i,none⟩=w.cell? ⟨C,i,none⟩
 pay:PayAt C n w->PayAt C n w'
 evs:∀e∈es,EvG Wg C B Cl w w' e
end
section
variable [Payload]{Wg C n B:Nat}{Cl:Nat->Prop}{w w₁ w₂:ah}
theorem Ro.yx(h:Ro Wg C n B Cl w w₁)(b:Nat):qQ w₁ b↔qQ w b:=by unfold qQ;rw[h.own,h.tag];exact⟨λx=>x.elim id λy=>absurd y ag,.inl⟩
theorem Ro.trans(h:Ro Wg C n B Cl w w₁)(h':Ro Wg C n B Cl w₁ w₂):Ro Wg C n B Cl w w₂:=
 ⟨bF h.size h'.size,h'.tape.trans h.tape,h'.os.trans h.os,h'.tag,λb=>(h'.own b).trans (h.yx b),λb h1 h2 h3=>(h'.low b h1 h2 h3).trans (h.low b h1 h2 h3),
  λb hb=>(h'.mine b ((h.yx b).2 hb)).trans (h.mine b hb),λi hi=>(h'.cell i hi).trans (h.cell i hi),h'.pay∘h.pay⟩
theorem Dg.idle[qR](w:ah):Dg Wg C n B Cl w w #[]:=⟨ay _,rfl,rfl,λ_ _ _ _=>rfl,λ_ _=>rfl,id,aA⟩
structure Qk(ty:aG)(Wg C n:Nat)(lo:aC)(Cm:Nat->Prop)(W W':ah):Prop where
 size:W.heap.size<=W'.heap.size
 tape:W'.tape=W.tape
 os:W'.os=W.os
 frame:∀b,b<W.heap.size->b∉lo->b≠C->b≠Wg->W'.heap[b]?=W.heap[b]?
 cells:∀i,¬Cm i->W'.cell? ⟨C,i,none⟩=W.cell? ⟨C,i,none⟩
 pay:PayAt C n W->PayAt C n W'
 live:WgLive ty Wg W->WgLive ty Wg W'
variable {ty:aG}{lo l:aC}{Cm:Nat->Prop}{W W':ah}
theorem Qk.refl(W:ah):Qk ty Wg C n lo Cm W W:=⟨ay _,rfl,rfl,λ_ _ _ _ _=>rfl,λ_ _=>rfl,id,id⟩
theorem Qk.at(W:ah)(d:Nat):Qk ty Wg C n lo Cm W (W.at d):=⟨ay _,rfl,rfl,λ_ _ _ _ _=>rfl,λ_ _=>rfl,id,id⟩
theorem Qk.of_wg(h:Aside Wg W W')(hl:WgLive ty Wg W')(hCW:C≠Wg):Qk ty Wg C n lo Cm W W':=
 ⟨fA h.size.symm,h.tape,h.os,λb _ _ _ hb=>h.block b hb,λi _=>cell_of_block (h.block C hCW) i,λ⟨cs,hc,hn⟩=>⟨cs,(h.block C hCW).trans hc,hn⟩,λ_=>hl⟩
theorem Qk.ro(h:Qk ty Wg C n lo Cm W W')(hB:B<=W.heap.size)(hlo:∀b∈lo,B<=b)(hl:∀b∈l,b∉lo/\b<W.heap.size/\b≠C/\b≠Wg)(hCl:∀i,Cl i->¬Cm i):Ro Wg C n B Cl (gw W l) (gw W' l):=by
 refine⟨h.size,h.tape,h.os,?_,λb=>?_,λb hb h1 h2=>h.frame b ag (λhm=>by have:=hlo b hm;omega) h2 h1,λb hb=>?_,λi hi=>h.cells i (hCl i hi),h.pay⟩
 .unfold gw;rw[xE];rfl
 .rw[yU];unfold gw;rw[vM]
 .rw[yU]at hb;obtain⟨h1,h2,h3,h4⟩:=hl b hb;exact h.frame b h2 h1 h3 h4
def fresh(a b:Nat):aC:=List.range' a (b-a)
omit [Payload]in
theorem DY{a b x:Nat}:x∈fresh a b↔a<=x/\x<b:=by unfold fresh;rw[List.mem_range'_1];omega
theorem ajz(hW:W'=w₁.out W.output)(ho:w₁.output=book W.heap.size l):Ro Wg C n B Cl w₁ (gw W' (l++fresh W.heap.size W'.heap.size)):=by
 subst hW
 have hm:∀b,qQ w₁ b↔b∈l++fresh W.heap.size w₁.heap.size:=by
  intro b;have e:w₁=w₁.out (book W.heap.size l):=by rw[<-ho];rfl
  rw[e];unfold qQ;rw[vM,xE,kK,DY]
 refine⟨ay _,rfl,rfl,?_,λb=>?_,λ_ _ _ _=>rfl,λ_ _=>rfl,λ_ _=>rfl,id⟩
 .unfold gw;rw[xE];rfl
 .unfold gw;rw[vM,hm];rfl
theorem Dg.chg[qR]{es:aN}(h:Dg Wg C n B Cl (gw W l) w₁ es)(hW:W'=w₁.out W.output)(wV:Wg∉l)(hWs:Wg<W.heap.size)(hCW:C≠Wg):Qk ty Wg C n l Cl W W':=by
 subst hW;have hf:∀b,b<W.heap.size->b∉l->b≠C->w₁.heap[b]?=W.heap[b]?:=λb h1 h2 h3=>h.frame b h1 (by rw[yU];exact h2) h3
 refine⟨h.size,h.tape,h.os,λb h1 h2 h3 _=>hf b h1 h2 h3,λi hi=>h.cells i hi,h.pay,λ⟨st,sm,x⟩=>⟨st,sm,?_⟩⟩;have:=hf Wg hWs wV (dE hCW);exact x.of_block this
