import Derived.Test.YtnbflnamlpodcaaGreatDoorLfD
set_option maxHeartbeats 1000000
namespace Go.Lf
open Go.Conc
section
variable (P:aN)(F:aU->Bool)
def Fa(S:Z7):Item->Prop
 | .code c=>uD P F S c=true
 | .inBlock _=>True
 | .inLoop c=>uD P F S c=true
 | .inRegion ops _=>ops.all (FY P F S)=true
 |_=>False
structure JB(f:aJ):Prop where
 fn:∃fn,P.funcs[f.fn]?=some fn
 kind:f.kind=.normal
 defers:f.defers=[]
 round:f.roundOf=none
 todo:∃S,(∀it∈f.todo,Fa P F S it)/\GM S f.tmps
end
section
variable {P:aN}{F:aU->Bool}{S:Z7}{tmps:aB}
theorem GM.nil:GM [] tmps:=λx hx=>by simp at hx
def ahq(d:Option Tmp)(tmps:aB)(u:ai):aB:=match d with
 |some d=>tmps.setIfInBounds d u
 |none=>tmps
theorem acg(t d:Nat)(u:ai):(tmps.setIfInBounds d u).getD t undef=if d=t then(if d<tmps.size then u else undef)else tmps.getD t undef:=by
 rw[mg,pW,mg];split
 .split
  .rfl
  .rfl
 .rfl
theorem GM.un(h:GM S tmps)(d:Option Tmp):GM S (ahq d tmps undef):=λx hx=>by
 cases d with
 |none=>exact h x hx
 |some d=>
  simp only[ahq];rw[acg];split
  .left;split<;>rfl
  .exact h x hx
theorem GM.put(h:GM S tmps){o:Oper}{u:ai}(hu:∀x∈S,o.dst=some x.1->u=Go.undef\/∃fs cs,u=.func (.func x.2.1) fs cs/\fs.size+cs.size=x.2.2):GM S (ahq o.dst tmps u):=λx hx=>by
 cases hd:o.dst with
 |none=>exact h x hx
 |some d=>
  simp only[ahq];rw[acg];split
  .rename_i e;split
   .exact hu x hx (by rw[hd,e])
   .exact .inl rfl
  .exact h x hx
theorem aal{o:Oper}(ho:FY P F S o=true){x:Nat×aU×Nat}(hx:x∈S)(hd:o.dst=some x.1):SN S x.2 o.op=true:=by unfold FY at ho;rw[gW]at ho;have:=jF.1 ho.1 x hx;rw[ay (by rw[hd];simp)]at this;exact this
theorem afJ{ρ:Operand->ai}(hτ:∀j,ρ (.tmp j)=tmps.getD j undef)(hS:GM S tmps){o:Oper}{x:aU×Nat}(h:SN S x o.op=true){v v':ah}{es rZ:aH}{n:Next}(hr:(execOp ρ o).runT P v es=(.ok n v',rZ)):
  ∃u,n=.value u/\(u=undef\/∃fs cs,u=.func (.func x.1) fs cs/\fs.size+cs.size=x.2):=by
 obtain⟨dst,op,ty,pos,after,guard⟩:=o;cases op
 case move y=>
  cases y
  case tmp j=>
   have h1:(j,x)∈S:=awg;have e:(execOp ρ ⟨dst,.move (.tmp j),ty,pos,after,guard⟩).runT P v es=(.ok (.value (ρ (.tmp j))) v,es):=rfl;exact aza
  all_goals cases h
 case assign y=>
  cases y
  case tmp j=>
   have h1:(j,x)∈S:=awg;have e:(execOp ρ ⟨dst,.assign (.tmp j),ty,pos,after,guard⟩).runT P v es=(.ok (.value (ρ (.tmp j))) v,es):=rfl;exact aza
  all_goals cases h
 case makeFunc fn first cap=>
  cases fn
  case func g=>
   have h1:g=x.1/\first.size+cap.size=x.2:=awg;have e:(execOp ρ ⟨dst,.makeFunc (.func g) first cap,ty,pos,after,guard⟩).runT P v es=(.ok (.value (.func (.func g) (first.map ρ) (cap.map ρ))) v,es):=rfl;rw[e]at hr;cases hr;exact⟨_,rfl,.inr ⟨_,_,by rw[h1.1],by simpa using h1.2⟩⟩
  all_goals cases h
 all_goals cases h
theorem GM.enter{avg:aB}{n k:Nat}(ha:avg.size<=n)(h:∀x∈S,n<=x.1):GM S (avg++Array.replicate k undef):=λx hx=>by
 have:=h x hx
 left
 rw[mg,Array.getElem?_append_right ag,Array.getElem?_replicate];split<;>rfl
end
def DN(K:b_)(f:aJ):aJ:={f with todo:=f.todo++K}
theorem zH(f:aJ):DN [] f=f:=by simp[DN]
def OM(X:Nat->Prop)(w:ah)(es:aH):Prop:=∀e∈es,EvP X w e
section
variable {P:aN}{F:aU->Bool}{X:Nat->Prop}{Y:Nat->aV}
inductive Way (P:aN) (F:aU->Bool) (f:aJ) (cs:aP) (w w':ah) (es:aH) (g':aG):Prop
 |here {f':aJ}:g'=G f' cs->JB P F f'->(f'.mode=.run\/f'.mode=.returning)->(∀K Aq,(f.todo=[]->K=[])->stepG P true (G (DN K f) Aq) w=.go (G (DN K f') Aq) w' es)->Way P F f cs w w' es g'
 |call {e:aJ}:g'=G e (f::cs)->JB P F e->e.mode=.run->(f.todo≠[]/\∀u,JB P F (f.finish u))->(∀K Aq,stepG P true (G (DN K f) Aq) w=.go (G e (DN K f::Aq)) w' es)->Way P F f cs w w' es g'
 |back {c:aJ} {r:aP} {v:ai}:cs=c::r->g'=G (c.finish v) r->f.mode=.returning->(∀c2 r2,stepG P true (G f (c2::r2)) w=.go (G (c2.finish v) r2) w' es)->Way P F f cs w w' es g'
theorem Iw{id:Nat}{K:b_}:∀{k k':b_},exitTo id k=some k'->exitTo id (k++K)=some (k'++K)
 |[],_,h=>by simp[exitTo]at h
 |x::k,k',h=>by
  cases x<;>simp only[exitTo,bT]at h⊢ <;>first
   |exact Iw h
   |(split at h
     .rename_i hc;rw[ay hc];cases h;rfl
     .rename_i hc;rw[au hc];exact Iw h)
theorem Iy{id:Nat}:∀{k k':b_},exitTo id k=some k'->∀it∈k',it∈k
 |[],_,h=>by simp[exitTo]at h
 |x::k,k',h=>by
  intro it F7
  cases x<;>simp only[exitTo]at h<;>first
   |exact lU _ (Iy h it F7)
   |(split at h
     .cases h;exact lU _ F7
     .exact lU _ (Iy h it F7))
def Tp(P:aN)(g:aG)(v:ah)(g':aG)(v':ah)(es:aH):Prop:=
 v'.tape=v.tape/\v.drawn<=v'.drawn/\∀τ:Nat->Question->Nat,(∀p,v.drawn<=p->p<v'.drawn->τ p=v.tape p)->stepG P true g {v with tape:=τ}=.go g' {v' with tape:=τ} es
def an8(P:aN)(F:aU->Bool)(X:Nat->Prop)(Y:Nat->aV)(f:aJ)(cs:aP)(w v:ah):Prop:=
 (∃o v' es,stepG P true (G f cs) v=.ended o v' es)\/(∃ch v' es,stepG P true (G f cs) v=.go (G {f with mode:=.panicking ch} cs) v' es)\/
 ∃g' v' es w',stepG P true (G f cs) v=.go g' v' es/\Tp P (G f cs) v g' v' es/\xZ X Y w' v'/\w.heap.size<=w'.heap.size/\OM X w' es/\Way P F f cs w w' es g'
theorem ctl{f f':aJ}{cs:aP}{w v:ah}(hs:xZ X Y w v)(h:∀K Aq u,(f.todo=[]->K=[])->stepG P true (G (DN K f) Aq) u=.go (G (DN K f') Aq) u #[])(hT:JB P F f')(hm:f'.mode=.run\/f'.mode=.returning):an8 P F X Y f cs w v:=by
 have key:∀u,stepG P true (G f cs) u=.go (G f' cs) u #[]:=λu=>by have:=h [] cs u (λ_=>rfl);rwa[zH,zH]at this
 exact azc
theorem ach(K:b_)(f:aJ):(DN K f).eval=f.eval:=by
 funext x
 cases x<;>rfl
theorem anV(hF:xY P F){f:aJ}{cs:aP}{w v:ah}(hT:JB P F f)(hm:f.mode=.run)(hs:xZ X Y w v):an8 P F X Y f cs w v:=by
 obtain⟨fn,tmps,todo,defers,mode,kind,round⟩:=f;obtain⟨⟨G9,Oi⟩,hk,hd,hr,S,ht,hS⟩:=hT;dsimp only at Oi hk hd hr ht hS hm;subst hk hd hr hm;have mk:∀{ac6:b_}{aky:FrameMode},(∀it∈ac6,Fa P F S it)->JB P F ⟨fn,tmps,ac6,[],aky,.normal,none⟩:=λh=>⟨⟨G9,Oi⟩,rfl,rfl,rfl,S,h,hS⟩
 cases todo with
 |nil=>exact ctl (f':=⟨fn,tmps,[],[],.returning,.normal,none⟩) hs (λK Aq u hK=>by rw[hK rfl];rfl) (mk ax) (.inr rfl)
 |cons it k=>
  have F7:=ht it ax;have hk:∀x∈k,Fa P F S x:=λx hx=>ht x mM
  have two:∀{a:Item},Fa P F S a->∀x∈a::k,Fa P F S x:=λha x hx=>by
   rcases dX.1 hx with rfl|hx
   .exact ha
   .exact hk x hx
  cases it with
  |code c=>
   cases c with
   |skip=>exact ctl (f':=⟨fn,tmps,k,[],.run,.normal,none⟩) hs (λK Aq u _=>rfl) (mk hk) (.inl rfl)
   |ret=>exact ctl (f':=⟨fn,tmps,.code .ret::k,[],.returning,.normal,none⟩) hs (λK Aq u _=>rfl) (mk ht) (.inr rfl)
   |seq a b=>
    have hab:uD P F S a=true/\uD P F S b=true:=qg
    exact ctl (f':=⟨fn,tmps,.code a::.code b::k,[],.run,.normal,none⟩) hs (λK Aq u _=>rfl) (mk λx hx=>by
     rcases dX.1 hx with rfl|hx
     .exact hab.1
     .exact two (a:=.code b) hab.2 x hx) (.inl rfl)
   |cond c a b=>
    have hab:uD P F S a=true/\uD P F S b=true:=qg;cases he:(⟨fn,tmps,.code (.cond c a b)::k,[],.run,.normal,none⟩:aJ).eval c with
    |bool t=>
     refine ctl (f':=⟨fn,tmps,.code (if t then a else b)::k,[],.run,.normal,none⟩) hs (λK Aq u _=>?_) (mk (two (a:=.code (if t then a else b)) (by cases t<;>simp[Fa,hab]))) (.inl rfl);have Ol:(DN K ⟨fn,tmps,.code (.cond c a b)::k,[],.run,.normal,none⟩).eval c=.bool t:=by rw[ach];exact he
     simp only[DN,bT]at Ol;simp only[G,DN,stepG,stepG.exec,bT,Ol]
    |_=>exact .inl ⟨_,_,_,axj⟩
   |block id c=>exact ctl (f':=⟨fn,tmps,.code c::.inBlock id::k,[],.run,.normal,none⟩) hs (λK Aq u _=>rfl) (mk λx hx=>by
    rcases dX.1 hx with rfl|hx
    .exact F7
    .exact two (a:=.inBlock id) trivial x hx) (.inl rfl)
   |loop c=>exact ctl (f':=⟨fn,tmps,.code c::.inLoop c::k,[],.run,.normal,none⟩) hs (λK Aq u _=>rfl) (mk λx hx=>by
    rcases dX.1 hx with rfl|hx
    .exact F7
    .exact two (a:=.inLoop c) F7 x hx) (.inl rfl)
   |exit id=>
    cases he:exitTo id k with
    |none=>exact .inl ⟨_,_,_,axk⟩
    |some k'=>exact ctl (f':=⟨fn,tmps,k',[],.run,.normal,none⟩) hs (λK Aq u _=>by simp only[G,DN,stepG,stepG.exec,bT,Iw he,Option.elim]) (mk λx hx=>hk x (Iy he x hx)) (.inl rfl)
   |region id ops draw=>
    have ho:ops.all (FY P F S)=true:=F7;cases draw with
    |false=>exact ctl (f':=⟨fn,tmps,.inRegion ops (List.range ops.size)::k,[],.run,.normal,none⟩) hs (λK Aq u _=>rfl) (mk (two (a:=.inRegion ops _) ho)) (.inl rfl)
    |true=>
     have hc:∀u:ah,(choose (.order fn id)).run P u=.ok (u.tape u.drawn (.order fn id)) {u with drawn:=u.drawn+1}:=λu=>rfl
     have et:w.tape w.drawn (.order fn id)=v.tape v.drawn (.order fn id):=axg
     refine .inr (.inr ⟨_,{v with drawn:=v.drawn+1},#[],{w with drawn:=w.drawn+1},axl,⟨rfl,Nat.le_succ _,λτ hτ=>axm⟩,hs.draw,az _,λe he=>n_,
      .here (f':=⟨fn,tmps,.inRegion ops (Region.schedule (P.follows .mixedOrders) ops (v.tape v.drawn (.order fn id)))::k,[],.run,.normal,none⟩) rfl (mk (two (a:=.inRegion ops _) ho)) (.inl rfl) λK Aq _=>?_⟩)
     simp only[G,DN,stepG,stepG.exec,bT,jm,dC,bQ,hc,et]
   |_=>cases F7
  |inBlock id=>exact ctl (f':=⟨fn,tmps,k,[],.run,.normal,none⟩) hs (λK Aq u _=>rfl) (mk hk) (.inl rfl)
  |inLoop c=>exact ctl (f':=⟨fn,tmps,.code c::.inLoop c::k,[],.run,.normal,none⟩) hs (λK Aq u _=>rfl) (mk λx hx=>by
     rcases dX.1 hx with rfl|hx
     .exact F7
     .exact two (a:=.inLoop c) F7 x hx) (.inl rfl)
  |inRegion ops is=>
   cases is with
   |nil=>exact ctl (f':=⟨fn,tmps,k,[],.run,.normal,none⟩) hs (λK Aq u _=>rfl) (mk hk) (.inl rfl)
   |cons i rest=>
    have ho:ops.all (FY P F S)=true:=F7;cases hw:((ops[i]?).map (Region.wanted · (yielded ops tmps))).getD false with
    |false=>
     refine ctl (f':=(⟨fn,tmps,.inRegion ops (i::rest)::k,[],.run,.normal,none⟩:aJ).finish undef) hs (λK Aq u _=>?_) ⟨⟨G9,Oi⟩,rfl,rfl,rfl,S,two (a:=.inRegion ops _) ho,hS.un _⟩ (.inl rfl);simp only[G,DN,stepG,stepG.exec,bT,hw,dC,bQ,Frame.finish]
    |true=>
     cases hoi:ops[i]? with
     |none=>rw[hoi]at hw;cases hw
     |some o=>
      have Em:FY P F S o=true:=mr.1 ho o (fZ hoi)
      have eA:∀K Aq u,stepG P true (G (DN K ⟨fn,tmps,.inRegion ops (i::rest)::k,[],.run,.normal,none⟩) Aq) u=
        stepG.apply P true (DN K ⟨fn,tmps,.inRegion ops (i::rest)::k,[],.run,.normal,none⟩) Aq none (execOp (⟨fn,tmps,.inRegion ops (i::rest)::k,[],.run,.normal,none⟩:aJ).eval o) u:=λK Aq u=>by
       rw[<-ach K];rw[hoi]at hw;simp only[G,DN,stepG,stepG.exec,bT,stepG.oper,Frame.oper?,hoi];rw[ay hw]
      obtain⟨vY,hlf⟩:=Zn hF (ρ:=(⟨fn,tmps,.inRegion ops (i::rest)::k,[],.run,.normal,none⟩:aJ).eval) (λ_=>rfl) (λ_=>rfl) hS Em;have Zj:∀{x:aU×Nat}{v v':ah}{es rZ:aH}{n:Next},SN S x o.op=true->(execOp (⟨fn,tmps,.inRegion ops (i::rest)::k,[],.run,.normal,none⟩:aJ).eval o).runT P v es=(.ok n v',rZ)->∃u,n=.value u/\(u=undef\/∃fs cs,u=.func (.func x.1) fs cs/\fs.size+cs.size=x.2):=λh hr=>afJ (λ_=>rfl) hS h hr
      have fin:∀u,(⟨fn,tmps,.inRegion ops (i::rest)::k,[],.run,.normal,none⟩:aJ).finish u=⟨fn,ahq o.dst tmps u,.inRegion ops rest::k,[],.run,.normal,none⟩:=λu=>by simp only[Frame.finish,hoi,gK];rfl
      generalize execOp (⟨fn,tmps,.inRegion ops (i::rest)::k,[],.run,.normal,none⟩:aJ).eval o=sem at eA vY hlf Zj;have eA0:=eA [] cs v;rw[zH]at eA0;cases sW:sem.runT P v #[]with
      |mk r es=>
       cases r with
       |halt h v'=>
        have hh:=vY.Tu w v #[] h v' es hs sW;cases h with
        |panic u=>
         exact .inr (.inl ⟨_,_,_,mX⟩)
        |stuck s=>exact .inl ⟨_,_,_,mX⟩
        |unsupported u=>
         cases u with
         |initOrder b=>exact hh.elim
         |_=>exact .inl ⟨_,_,_,mX⟩
        |_=>exact hh.elim
       |ok x v'=>
        obtain⟨w',Fp,xU,hsz,hev⟩:=vY.WM w v #[] x v' es hs sW;obtain⟨Tn,ht2,ht3⟩:=vY.tape v #[] x v' es hs.nv sW
        have eAτ:∀τ:Nat->Question->Nat,stepG P true (G ⟨fn,tmps,.inRegion ops (i::rest)::k,[],.run,.normal,none⟩ cs) {v with tape:=τ}=stepG.apply P true ⟨fn,tmps,.inRegion ops (i::rest)::k,[],.run,.normal,none⟩ cs none sem {v with tape:=τ}:=λτ=>by have:=eA [] cs {v with tape:=τ};rwa[zH]at this
        have XV:w.heap.size<=w'.heap.size:=awG;have aeX:OM X w' (seen P fn es):=λe he=>(hev e (mem_seen he)).resolve_left ax
        rcases uN sem hlf v #[] x v' es sW with⟨u,rfl⟩|rfl|⟨f1,avg,hf1,has,rfl⟩
        .refine .inr (.inr ⟨_,_,seen P fn es,w',mY,⟨Tn,ht2,λτ hτ=>mW⟩,xU,XV,aeX,
          .here (f':=(⟨fn,tmps,.inRegion ops (i::rest)::k,[],.run,.normal,none⟩:aJ).finish u) rfl axI (.inl rfl) λK Aq _=>?_⟩)
         exact ayt
        .refine .inr (.inr ⟨_,_,seen P fn es,w',mY,⟨Tn,ht2,λτ hτ=>mW⟩,xU,XV,aeX,
          .here (f':=(⟨fn,tmps,.inRegion ops (i::rest)::k,[],.run,.normal,none⟩:aJ).finish undef) rfl axG (.inl rfl) λK Aq _=>?_⟩)
         exact ayt
        .obtain⟨fn1,c1,S1,g1,g2,g3,g4,g5⟩:=hf1
         refine .inr (.inr ⟨_,_,seen P fn es,w',mY,⟨Tn,ht2,λτ hτ=>mW⟩,xU,XV,aeX,
          .call (e:=Frame.enter P f1 avg .normal) rfl ⟨⟨fn1,g1⟩,rfl,rfl,rfl,S1,λx hx=>?_,GM.enter has g5⟩ rfl ⟨ax,λu=>axH⟩ λK Aq=>?_⟩)
         .exact ayP
         .rw[eA];simp only[stepG.apply,aX,Fp,GStep.after];rfl
  |_=>cases F7
end
section
variable {P:aN}{F:aU->Bool}{X:Nat->Prop}{Y:Nat->aV}
theorem wV(fn:Func)(tmps:aB):Plain P (results fn tmps):=by
 unfold results;refine qp (VH (λx=>?_) _) λvs=>qo _
 cases x with
 |tmp t=>exact qo _
 |cell a t=>exact qp (Ee _) λ_=>wY _ _
theorem RV{f c:aJ}{r:aP}{w v:ah}(hT:JB P F f)(hm:f.mode=.returning)(hs:xZ X Y w v):(∃o v' es,stepG P true (G f (c::r)) v=.ended o v' es)\/
  ∃y v' es w',stepG P true (G f (c::r)) v=.go (G (c.finish y) r) v' es/\Tp P (G f (c::r)) v (G (c.finish y) r) v' es/\xZ X Y w' v'/\w.heap.size<=w'.heap.size/\OM X w' es/\∀c2 r2,stepG P true (G f (c2::r2)) w=.go (G (c2.finish y) r2) w' es:=by
 obtain⟨fn,tmps,todo,defers,mode,kind,round⟩:=f;obtain⟨⟨G9,Oi⟩,hk,hd,hr,ht⟩:=hT;dsimp only at Oi hk hd hr ht hm;subst hk hd hr hm;have vY:=wV (P:=P) G9 tmps
 have eA:∀c2 r2 u,stepG P true (G ⟨fn,tmps,todo,[],.returning,.normal,none⟩ (c2::r2)) u=
   GStep.after (seen P fn ((results G9 tmps).runT P u #[]).2) (match((results G9 tmps).runT P u #[]).1 with
    | .ok v w=>doReturn P true ⟨fn,tmps,todo,[],.returning,.normal,none⟩ (c2::r2) none v w
    | .halt (.stuck s) w=>.ended (.stuck s (Frame.pos P ⟨fn,tmps,todo,[],.returning,.normal,none⟩)) w
    | .halt _ w=>.ended (.stuck "return: the result variables cannot be read" (Frame.pos P ⟨fn,tmps,todo,[],.returning,.normal,none⟩)) w):=λc2 r2 u=>by
  simp only[G,stepG,unwind,Oi];rfl
 cases sW:(results G9 tmps).runT P v #[]with
 |mk x es=>
  cases x with
  |halt h v'=>
   refine .inl ?_;rw[eA,sW];cases h<;>exact⟨_,_,_,rfl⟩
  |ok y v'=>
   obtain⟨w',Fp,xU,hsz,hev⟩:=vX _ w v #[] y v' es vY hs sW;have XV:w.heap.size<=w'.heap.size:=awG;obtain⟨Tn,ht2,ht3⟩:=wM _ v #[] y v' es vY hs.nv sW;refine .inr ⟨y,_,seen P fn es,w',by rw[eA,sW];simp only[doReturn,GStep.after];rfl,⟨Tn,ht2,λτ hτ=>by rw[eA,ht3 τ hτ];simp only[doReturn,GStep.after];rfl⟩,xU,XV,λe he=>(hev e (mem_seen he)).resolve_left ax,λc2 r2=>?_⟩;rw[eA,Fp];simp only[doReturn,GStep.after];rfl
def f0:aJ:={fn:=0,tmps:=#[],todo:=[.code (.refuse "")],defers:=[{target:=.nil,args:=#[]}],mode:=.run,kind:=.normal}
theorem ap1(u:ah):∃o v es,stepG P true (G f0 []) u=.ended o v es:=⟨_,_,_,rfl⟩
theorem afg(ch:List PanicEntry)(u:ah):∃o v es,stepG P true (G {f0 with mode:=.panicking ch} []) u=.ended o v es:=⟨_,_,_,rfl⟩
def Stack(P:aN)(F:aU->Bool):aP->Prop
 |[]=>True
 |c::r=>(JB P F c/\c.mode=.run/\c.todo≠[]/\(∀v,JB P F (c.finish v)/\(c.finish v).mode=.run/\∀K,(DN K c).finish v=DN K (c.finish v)))/\Stack P F r
theorem QD{c:aJ}(hT:JB P F c)(hm:c.mode=.run)(hne:c.todo≠[]/\∀u,JB P F (c.finish u)):∀v,JB P F (c.finish v)/\(c.finish v).mode=.run/\∀K,(DN K c).finish v=DN K (c.finish v):=by
 intro v;refine⟨hne.2 v,?_⟩;replace hne:=hne.1;obtain⟨fn,tmps,todo,defers,mode,kind,round⟩:=c;obtain⟨h1,hk,hd,hr,S,ht,_⟩:=hT;dsimp only at h1 hk hd hr ht hm hne;subst hk hd hr hm;cases todo with
 |nil=>exact absurd rfl hne
 |cons it k=>
  have F7:=ht it ax;cases it with
  |inRegion ops is=>
   cases is with
   |nil=>exact⟨rfl,λK=>rfl⟩
   |cons i rest=>exact⟨rfl,λK=>rfl⟩
  |code c=>exact⟨rfl,λK=>rfl⟩
  |inBlock id=>exact⟨rfl,λK=>rfl⟩
  |inLoop c=>exact⟨rfl,λK=>rfl⟩
  |_=>cases F7
def akz(K:b_)(cs:aP):aP->aP
 |[]=>cs
 |[b]=>DN K b::cs
 |c::d::r=>c::akz K cs (d::r)
inductive ap2 (P:aN) (X:Nat->Prop):aG->ah->aG->ah->Prop
 |refl (g:aG) (w:ah):ap2 P X g w g w
 |step {g g' g'':aG} {w w' w'':ah} {es:aH}:g.status=.running->stepG P true g w=.go g' w' es->OM X w' es->w.heap.size<=w'.heap.size->ap2 P X g' w' g'' w''->ap2 P X g w g'' w''
def GR(P:aN)(n:Nat)(f:aJ)(cs:aP)(v:ah)(f':aJ)(cs':aP)(v':ah):Prop:=runN P n (lone f cs v)=.next (lone f' cs' v')
theorem xw{n:Nat}{f f1 f':aJ}{cs cs1 cs':aP}{v v1 v':ah}{es:aH}(he:stepG P true (G f cs) v=.go (G f1 cs1) v1 es)(h:GR P (n+1) f cs v f' cs' v'):GR P n f1 cs1 v1 f' cs' v':=by have:step P (lone f cs v)=.next (lone f1 cs1 v1):=step_lone_go axu;unfold GR at h;rw[runN,this]at h;exact h
theorem yA{n:Nat}{f f':aJ}{cs cs':aP}{v v1 v':ah}{o:Outcome}{es:aH}(he:stepG P true (G f cs) v=.ended o v1 es):¬GR P (n+1) f cs v f' cs' v':=by have:step P (lone f cs v)=.ended o v1:=step_lone_ended axu;intro h;unfold GR at h;rw[runN,this]at h;cases h
theorem zG{f f':aJ}{cs cs':aP}{v v':ah}(h:GR P 0 f cs v f' cs' v'):f=f'/\cs=cs'/\v=v':=by unfold GR at h;rw[runN]at h;simp only[lone,Stepped.next.injEq,Machine.mk.injEq]at h;obtain⟨h1,h2,_⟩:=h;simp at h2;exact⟨h2.1,h2.2,h1⟩
theorem VJ:∀(n:Nat)(f:aJ)(r:aP)(ch:List PanicEntry)(v:ah)(f':aJ)(r':aP)(v':ah),(∀c∈r,JB P F c/\c.mode=.run)->f.mode=.panicking ch->((∃fn,P.funcs[f.fn]?=some fn)/\f.defers=[])->f'.mode=.run->
  ¬GR P n f (r++[f0]) v f' r' v'
 |0,f,r,ch,v,f',r',v',_,hm,_,WC,h=>by obtain⟨rfl,_⟩:=zG h;rw[WC]at hm;cases hm
 |n+1,f,r,ch,v,f',r',v',hr,hm,⟨⟨fn,Oi⟩,hd⟩,WC,h=>by
  have aiV:f.catches P=false:=axe;cases r with
  |nil=>
   have e:stepG P true (G f ([]++[f0])) v=.go (G (f0.raise ch) []) v #[]:=by simp only[dA,G,stepG,hm,unwind,hd,aiV,dC,bQ]
   have h2:=xw e h;cases n with
   |zero=>
    obtain⟨h3,_⟩:=zG h2;rw[<-h3]at WC;cases WC
   |succ n=>
    obtain⟨o,v1,es,he⟩:=afg (P:=P) ch v;exact yA (show stepG P true (G (f0.raise ch) []) v=_ from he) h2
  |cons c r=>
   have e:stepG P true (G f (c::r++[f0])) v=.go (G (c.raise ch) (r++[f0])) v #[]:=by simp only[bT,G,stepG,hm,unwind,hd,aiV,dC,bQ]
   have h2:=xw e h;obtain⟨hc,sU⟩:=hr c ax;have er:c.raise ch={c with mode:=.panicking ch}:=by simp[Frame.raise,sU]
   rw[er]at h2;exact VJ n {c with mode:=.panicking ch} r ch v f' r' v' (λx hx=>hr x mM) rfl ⟨hc.fn,hc.defers⟩ WC h2
def ahr(K:b_)(cs:aP)(f:aJ)(r:aP):aG:=
 match r with
 |[]=>G (DN K f) cs
 |c::r=>G f (akz K cs (c::r))
theorem Lm:∀{r:aP},Stack P F r->∀c∈r,JB P F c/\c.mode=.run
 |[],_,c,h=>by simp at h
 |d::r,hS,c,h=>by
  rcases dX.1 h with rfl|h
  .exact⟨hS.1.1,hS.1.2.1⟩
  .exact Lm hS.2 c h
theorem U4(n:Nat)(v:ah)(fz:aJ)(v':ah):¬GR P n f0 [] v fz [f0] v':=by
 intro h;cases n with
 |zero=>exact absurd (zG h).2.1 ax
 |succ n=>
  obtain⟨o,v1,es,he⟩:=ap1 (P:=P) v;exact yA he h
