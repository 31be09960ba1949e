import Derived.Test.YtnbflnamlpodcaaGreatDoorLfD
set_option maxHeartbeats 1000000
namespace Go.Lf
open Go.Conc
section
variable (P:Program)(F:FuncId->Bool)
def BP(S:Vf):Item->Prop
 | .code c=>sU P F S c=true
 | .inBlock _=>True
 | .inLoop c=>sU P F S c=true
 | .inRegion ops _=>ops.all (CV P F S)=true
 |_=>False
structure FV(f:Frame):Prop where
 fn:∃fn,P.funcs[f.fn]?=some fn
 kind:f.kind=.normal
 defers:f.defers=[]
 round:f.roundOf=none
 todo:∃S,(∀it∈f.todo,BP P F S it)/\DL S f.tmps
end
section
variable {P:Program}{F:FuncId->Bool}{S:Vf}{tmps:Array Value}
theorem DL.nil:DL [] tmps:=λx hx=>by simp at hx
def acH(d:Option Tmp)(tmps:Array Value)(u:Value):Array Value:=match d with
 |some d=>tmps.setIfInBounds d u
 |none=>tmps
theorem XP(t d:Nat)(u:Value):(tmps.setIfInBounds d u).getD t undef=if d=t then(if d<tmps.size then u else undef)else tmps.getD t undef:=by
 rw[kQ,nY,kQ];split
 .split
  .rfl
  .rfl
 .rfl
theorem DL.un(h:DL S tmps)(d:Option Tmp):DL S (acH d tmps undef):=λx hx=>by
 cases d with
 |none=>exact h x hx
 |some d=>
  simp only[acH];rw[XP];split
  .left;split<;>rfl
  .exact h x hx
theorem DL.put(h:DL S tmps){o:Oper}{u:Value}(hu:∀x∈S,o.dst=some x.1->u=Go.undef\/∃fs cs,u=.func (.func x.2.1) fs cs/\fs.size+cs.size=x.2.2):DL S (acH o.dst tmps u):=λx hx=>by
 cases hd:o.dst with
 |none=>exact h x hx
 |some d=>
  simp only[acH];rw[XP];split
  .rename_i e;split
   .exact hu x hx (by rw[hd,e])
   .exact .inl rfl
  .exact h x hx
theorem Vt{o:Oper}(ho:CV P F S o=true){x:Nat×FuncId×Nat}(hx:x∈S)(hd:o.dst=some x.1):NS S x.2 o.op=true:=by unfold CV at ho;rw[fA]at ho;have:=iP.1 ho.1 x hx;rw[aj (by rw[hd];simp)]at this;exact this
theorem abj{ρ:Operand->Value}(hτ:∀j,ρ (.tmp j)=tmps.getD j undef)(hS:DL S tmps){o:Oper}{x:FuncId×Nat}(h:NS S x o.op=true){v v':World}{es es':Array Event}{n:Next}(hr:(execOp ρ o).runT P v es=(.ok n v',es')):
  ∃u,n=.value u/\(u=undef\/∃fs cs,u=.func (.func x.1) fs cs/\fs.size+cs.size=x.2):=by
 obtain⟨dst,op,ty,pos,after,guard⟩:=o;cases op
 case move y=>
  cases y
  case tmp j=>
   have h1:(j,x)∈S:=an9;have e:(execOp ρ ⟨dst,.move (.tmp j),ty,pos,after,guard⟩).runT P v es=(.ok (.value (ρ (.tmp j))) v,es):=rfl;exact arA
  all_goals cases h
 case assign y=>
  cases y
  case tmp j=>
   have h1:(j,x)∈S:=an9;have e:(execOp ρ ⟨dst,.assign (.tmp j),ty,pos,after,guard⟩).runT P v es=(.ok (.value (ρ (.tmp j))) v,es):=rfl;exact arA
  all_goals cases h
 case makeFunc fn first cap=>
  cases fn
  case func g=>
   have h1:g=x.1/\first.size+cap.size=x.2:=an9;have e:(execOp ρ ⟨dst,.makeFunc (.func g) first cap,ty,pos,after,guard⟩).runT P v es=(.ok (.value (.func (.func g) (first.map ρ) (cap.map ρ))) v,es):=rfl;rw[e]at hr;cases hr;exact⟨_,rfl,.inr ⟨_,_,by rw[h1.1],by simpa using h1.2⟩⟩
  all_goals cases h
 all_goals cases h
theorem DL.enter{anE:Array Value}{n k:Nat}(ha:anE.size<=n)(h:∀x∈S,n<=x.1):DL S (anE++Array.replicate k undef):=λx hx=>by
 have:=h x hx
 left
 rw[kQ,Array.getElem?_append_right ae,Array.getElem?_replicate];split<;>rfl
end
def AA(K:List Item)(f:Frame):Frame:={f with todo:=f.todo++K}
theorem xU(f:Frame):AA [] f=f:=by simp[AA]
def JF(X:Nat->Prop)(w:World)(es:Array Event):Prop:=∀e∈es,EvP X w e
section
variable {P:Program}{F:FuncId->Bool}{X:Nat->Prop}{Y:Nat->Option Obj}
inductive Way (P:Program) (F:FuncId->Bool) (f:Frame) (cs:List Frame) (w w':World) (es:Array Event) (g':Goroutine):Prop
 |here {f':Frame}:g'=G f' cs->FV P F f'->(f'.mode=.run\/f'.mode=.returning)->(∀K cs2,(f.todo=[]->K=[])->stepG P true (G (AA K f) cs2) w=.go (G (AA K f') cs2) w' es)->Way P F f cs w w' es g'
 |call {e:Frame}:g'=G e (f::cs)->FV P F e->e.mode=.run->(f.todo≠[]/\∀u,FV P F (f.finish u))->(∀K cs2,stepG P true (G (AA K f) cs2) w=.go (G e (AA K f::cs2)) w' es)->Way P F f cs w w' es g'
 |back {c:Frame} {r:List Frame} {v:Value}:cs=c::r->g'=G (c.finish v) r->f.mode=.returning->(∀c2 r2,stepG P true (G f (c2::r2)) w=.go (G (c2.finish v) r2) w' es)->Way P F f cs w w' es g'
theorem EI{id:Nat}{K:List Item}:∀{k k':List Item},exitTo id k=some k'->exitTo id (k++K)=some (k'++K)
 |[],_,h=>by simp[exitTo]at h
 |x::k,k',h=>by
  cases x<;>simp only[exitTo,aW]at h⊢ <;>first
   |exact EI h
   |(split at h
     .rename_i hc;rw[aj hc];cases h;rfl
     .rename_i hc;rw[ah hc];exact EI h)
theorem EJ{id:Nat}:∀{k k':List Item},exitTo id k=some k'->∀it∈k',it∈k
 |[],_,h=>by simp[exitTo]at h
 |x::k,k',h=>by
  intro it hit
  cases x<;>simp only[exitTo]at h<;>first
   |exact lZ _ (EJ h it hit)
   |(split at h
     .cases h;exact lZ _ hit
     .exact lZ _ (EJ h it hit))
def Tp(P:Program)(g:Goroutine)(v:World)(g':Goroutine)(v':World)(es:Array Event):Prop:=
 v'.tape=v.tape/\v.drawn<=v'.drawn/\∀τ:Nat->Question->Nat,(∀p,v.drawn<=p->p<v'.drawn->τ p=v.tape p)->stepG P true g {v with tape:=τ}=.go g' {v' with tape:=τ} es
def aiA(P:Program)(F:FuncId->Bool)(X:Nat->Prop)(Y:Nat->Option Obj)(f:Frame)(cs:List Frame)(w v:World):Prop:=
 (∃o v' es,stepG P true (G f cs) v=.ended o v' es)\/(∃ch v' es,stepG P true (G f cs) v=.go (G {f with mode:=.panicking ch} cs) v' es)\/
 ∃g' v' es w',stepG P true (G f cs) v=.go g' v' es/\Tp P (G f cs) v g' v' es/\vY X Y w' v'/\w.heap.size<=w'.heap.size/\JF X w' es/\Way P F f cs w w' es g'
theorem ctl{f f':Frame}{cs:List Frame}{w v:World}(hs:vY X Y w v)(h:∀K cs2 u,(f.todo=[]->K=[])->stepG P true (G (AA K f) cs2) u=.go (G (AA K f') cs2) u #[])(hT:FV P F f')(hm:f'.mode=.run\/f'.mode=.returning):aiA P F X Y f cs w v:=by
 have key:∀u,stepG P true (G f cs) u=.go (G f' cs) u #[]:=λu=>by have:=h [] cs u (λ_=>rfl);rwa[xU,xU]at this
 exact arR
theorem XQ(K:List Item)(f:Frame):(AA K f).eval=f.eval:=by
 funext x
 cases x<;>rfl
theorem aiq(hF:vX P F){f:Frame}{cs:List Frame}{w v:World}(hT:FV P F f)(hm:f.mode=.run)(hs:vY X Y w v):aiA P F X Y f cs w v:=by
 obtain⟨fn,tmps,todo,defers,mode,kind,round⟩:=f;obtain⟨⟨D5,hfn⟩,hk,hd,hr,S,ht,hS⟩:=hT;dsimp only at hfn hk hd hr ht hS hm;subst hk hd hr hm;have mk:∀{todo':List Item}{afM:FrameMode},(∀it∈todo',BP P F S it)->FV P F ⟨fn,tmps,todo',[],afM,.normal,none⟩:=λh=>⟨⟨D5,hfn⟩,rfl,rfl,rfl,S,h,hS⟩
 cases todo with
 |nil=>exact ctl (f':=⟨fn,tmps,[],[],.returning,.normal,none⟩) hs (λK cs2 u hK=>by rw[hK rfl];rfl) (mk ai) (.inr rfl)
 |cons it k=>
  have hit:=ht it ai;have hk:∀x∈k,BP P F S x:=λx hx=>ht x jM
  have two:∀{a:Item},BP P F S a->∀x∈a::k,BP P F S x:=λha x hx=>by
   rcases dw.1 hx with rfl|hx
   .exact ha
   .exact hk x hx
  cases it with
  |code c=>
   cases c with
   |skip=>exact ctl (f':=⟨fn,tmps,k,[],.run,.normal,none⟩) hs (λK cs2 u _=>rfl) (mk hk) (.inl rfl)
   |ret=>exact ctl (f':=⟨fn,tmps,.code .ret::k,[],.returning,.normal,none⟩) hs (λK cs2 u _=>rfl) (mk ht) (.inr rfl)
   |seq a b=>
    have hab:sU P F S a=true/\sU P F S b=true:=ou
    exact ctl (f':=⟨fn,tmps,.code a::.code b::k,[],.run,.normal,none⟩) hs (λK cs2 u _=>rfl) (mk λx hx=>by
     rcases dw.1 hx with rfl|hx
     .exact hab.1
     .exact two (a:=.code b) hab.2 x hx) (.inl rfl)
   |cond c a b=>
    have hab:sU P F S a=true/\sU P F S b=true:=ou;cases he:(⟨fn,tmps,.code (.cond c a b)::k,[],.run,.normal,none⟩:Frame).eval c with
    |bool t=>
     refine ctl (f':=⟨fn,tmps,.code (if t then a else b)::k,[],.run,.normal,none⟩) hs (λK cs2 u _=>?_) (mk (two (a:=.code (if t then a else b)) (by cases t<;>simp[BP,hab]))) (.inl rfl);have he':(AA K ⟨fn,tmps,.code (.cond c a b)::k,[],.run,.normal,none⟩).eval c=.bool t:=by rw[XQ];exact he
     simp only[AA,aW]at he';simp only[G,AA,stepG,stepG.exec,aW,he']
    |_=>exact .inl ⟨_,_,_,apf⟩
   |block id c=>exact ctl (f':=⟨fn,tmps,.code c::.inBlock id::k,[],.run,.normal,none⟩) hs (λK cs2 u _=>rfl) (mk λx hx=>by
    rcases dw.1 hx with rfl|hx
    .exact hit
    .exact two (a:=.inBlock id) trivial x hx) (.inl rfl)
   |loop c=>exact ctl (f':=⟨fn,tmps,.code c::.inLoop c::k,[],.run,.normal,none⟩) hs (λK cs2 u _=>rfl) (mk λx hx=>by
    rcases dw.1 hx with rfl|hx
    .exact hit
    .exact two (a:=.inLoop c) hit x hx) (.inl rfl)
   |exit id=>
    cases he:exitTo id k with
    |none=>exact .inl ⟨_,_,_,apg⟩
    |some k'=>exact ctl (f':=⟨fn,tmps,k',[],.run,.normal,none⟩) hs (λK cs2 u _=>by simp only[G,AA,stepG,stepG.exec,aW,EI he,Option.elim]) (mk λx hx=>hk x (EJ he x hx)) (.inl rfl)
   |region id ops draw=>
    have ho:ops.all (CV P F S)=true:=hit;cases draw with
    |false=>exact ctl (f':=⟨fn,tmps,.inRegion ops (List.range ops.size)::k,[],.run,.normal,none⟩) hs (λK cs2 u _=>rfl) (mk (two (a:=.inRegion ops _) ho)) (.inl rfl)
    |true=>
     have hc:∀u:World,(choose (.order fn id)).run P u=.ok (u.tape u.drawn (.order fn id)) {u with drawn:=u.drawn+1}:=λu=>rfl
     have et:w.tape w.drawn (.order fn id)=v.tape v.drawn (.order fn id):=apc
     refine .inr (.inr ⟨_,{v with drawn:=v.drawn+1},#[],{w with drawn:=w.drawn+1},aph,⟨rfl,Nat.le_succ _,λτ hτ=>api⟩,hs.draw,ak _,λe he=>mJ,
      .here (f':=⟨fn,tmps,.inRegion ops (Region.schedule (P.follows .mixedOrders) ops (v.tape v.drawn (.order fn id)))::k,[],.run,.normal,none⟩) rfl (mk (two (a:=.inRegion ops _) ho)) (.inl rfl) λK cs2 _=>?_⟩)
     simp only[G,AA,stepG,stepG.exec,aW,iD,bF,aU,hc,et]
   |_=>cases hit
  |inBlock id=>exact ctl (f':=⟨fn,tmps,k,[],.run,.normal,none⟩) hs (λK cs2 u _=>rfl) (mk hk) (.inl rfl)
  |inLoop c=>exact ctl (f':=⟨fn,tmps,.code c::.inLoop c::k,[],.run,.normal,none⟩) hs (λK cs2 u _=>rfl) (mk λx hx=>by
     rcases dw.1 hx with rfl|hx
     .exact hit
     .exact two (a:=.inLoop c) hit x hx) (.inl rfl)
  |inRegion ops is=>
   cases is with
   |nil=>exact ctl (f':=⟨fn,tmps,k,[],.run,.normal,none⟩) hs (λK cs2 u _=>rfl) (mk hk) (.inl rfl)
   |cons i rest=>
    have ho:ops.all (CV P F S)=true:=hit;cases hw:((ops[i]?).map (Region.wanted · (yielded ops tmps))).getD false with
    |false=>
     refine ctl (f':=(⟨fn,tmps,.inRegion ops (i::rest)::k,[],.run,.normal,none⟩:Frame).finish undef) hs (λK cs2 u _=>?_) ⟨⟨D5,hfn⟩,rfl,rfl,rfl,S,two (a:=.inRegion ops _) ho,hS.un _⟩ (.inl rfl);simp only[G,AA,stepG,stepG.exec,aW,hw,bF,aU,Frame.finish]
    |true=>
     cases hoi:ops[i]? with
     |none=>rw[hoi]at hw;cases hw
     |some o=>
      have hok:CV P F S o=true:=kS.1 ho o (dX hoi)
      have eA:∀K cs2 u,stepG P true (G (AA K ⟨fn,tmps,.inRegion ops (i::rest)::k,[],.run,.normal,none⟩) cs2) u=
        stepG.apply P true (AA K ⟨fn,tmps,.inRegion ops (i::rest)::k,[],.run,.normal,none⟩) cs2 none (execOp (⟨fn,tmps,.inRegion ops (i::rest)::k,[],.run,.normal,none⟩:Frame).eval o) u:=λK cs2 u=>by
       rw[<-XQ K];rw[hoi]at hw;simp only[G,AA,stepG,stepG.exec,aW,stepG.oper,Frame.oper?,hoi];rw[aj hw]
      obtain⟨hpl,hlf⟩:=UW hF (ρ:=(⟨fn,tmps,.inRegion ops (i::rest)::k,[],.run,.normal,none⟩:Frame).eval) (λ_=>rfl) (λ_=>rfl) hS hok;have UA:∀{x:FuncId×Nat}{v v':World}{es es':Array Event}{n:Next},NS S x o.op=true->(execOp (⟨fn,tmps,.inRegion ops (i::rest)::k,[],.run,.normal,none⟩:Frame).eval o).runT P v es=(.ok n v',es')->∃u,n=.value u/\(u=undef\/∃fs cs,u=.func (.func x.1) fs cs/\fs.size+cs.size=x.2):=λh hr=>abj (λ_=>rfl) hS h hr
      have fin:∀u,(⟨fn,tmps,.inRegion ops (i::rest)::k,[],.run,.normal,none⟩:Frame).finish u=⟨fn,acH o.dst tmps u,.inRegion ops rest::k,[],.run,.normal,none⟩:=λu=>by simp only[Frame.finish,hoi,eQ];rfl
      generalize execOp (⟨fn,tmps,.inRegion ops (i::rest)::k,[],.run,.normal,none⟩:Frame).eval o=sem at eA hpl hlf UA;have Z7:=eA [] cs v;rw[xU]at Z7;cases hrun:sem.runT P v #[]with
      |mk r es=>
       cases r with
       |halt h v'=>
        have hh:=hpl.halts w v #[] h v' es hs hrun;cases h with
        |panic u=>
         exact .inr (.inl ⟨_,_,_,lq⟩)
        |stuck s=>exact .inl ⟨_,_,_,lq⟩
        |unsupported u=>
         cases u with
         |initOrder b=>exact hh.elim
         |_=>exact .inl ⟨_,_,_,lq⟩
        |_=>exact hh.elim
       |ok x v'=>
        obtain⟨w',hrun',hs',hsz,hev⟩:=hpl.QX w v #[] x v' es hs hrun;obtain⟨ht1,ht2,ht3⟩:=hpl.tape v #[] x v' es hs.nv hrun
        have eAτ:∀τ:Nat->Question->Nat,stepG P true (G ⟨fn,tmps,.inRegion ops (i::rest)::k,[],.run,.normal,none⟩ cs) {v with tape:=τ}=stepG.apply P true ⟨fn,tmps,.inRegion ops (i::rest)::k,[],.run,.normal,none⟩ cs none sem {v with tape:=τ}:=λτ=>by have:=eA [] cs {v with tape:=τ};rwa[xU]at this
        have hsz':w.heap.size<=w'.heap.size:=aoy;have hevs:JF X w' (seen P fn es):=λe he=>(hev e (mem_seen he)).resolve_left ai
        rcases tu sem hlf v #[] x v' es hrun with⟨u,rfl⟩|rfl|⟨f1,anE,hf1,has,rfl⟩
        .refine .inr (.inr ⟨_,_,seen P fn es,w',lu,⟨ht1,ht2,λτ hτ=>lh⟩,hs',hsz',hevs,
          .here (f':=(⟨fn,tmps,.inRegion ops (i::rest)::k,[],.run,.normal,none⟩:Frame).finish u) rfl apE (.inl rfl) λK cs2 _=>?_⟩)
         exact aqn
        .refine .inr (.inr ⟨_,_,seen P fn es,w',lu,⟨ht1,ht2,λτ hτ=>lh⟩,hs',hsz',hevs,
          .here (f':=(⟨fn,tmps,.inRegion ops (i::rest)::k,[],.run,.normal,none⟩:Frame).finish undef) rfl apC (.inl rfl) λK cs2 _=>?_⟩)
         exact aqn
        .obtain⟨fn1,c1,S1,g1,g2,g3,g4,g5⟩:=hf1
         refine .inr (.inr ⟨_,_,seen P fn es,w',lu,⟨ht1,ht2,λτ hτ=>lh⟩,hs',hsz',hevs,
          .call (e:=Frame.enter P f1 anE .normal) rfl ⟨⟨fn1,g1⟩,rfl,rfl,rfl,S1,λx hx=>?_,DL.enter has g5⟩ rfl ⟨ai,λu=>apD⟩ λK cs2=>?_⟩)
         .exact aqv
         .rw[eA];simp only[stepG.apply,aF,hrun',GStep.after];rfl
  |_=>cases hit
end
section
variable {P:Program}{F:FuncId->Bool}{X:Nat->Prop}{Y:Nat->Option Obj}
theorem uP(fn:Func)(tmps:Array Value):Plain P (results fn tmps):=by
 unfold results;refine qh (Qq (λx=>?_) _) λvs=>qg _
 cases x with
 |tmp t=>exact qg _
 |cell a t=>exact qh (Bc _) λ_=>uS _ _
theorem Nl{f c:Frame}{r:List Frame}{w v:World}(hT:FV P F f)(hm:f.mode=.returning)(hs:vY X Y w v):(∃o v' es,stepG P true (G f (c::r)) v=.ended o v' es)\/
  ∃y v' es w',stepG P true (G f (c::r)) v=.go (G (c.finish y) r) v' es/\Tp P (G f (c::r)) v (G (c.finish y) r) v' es/\vY X Y w' v'/\w.heap.size<=w'.heap.size/\JF X w' es/\∀c2 r2,stepG P true (G f (c2::r2)) w=.go (G (c2.finish y) r2) w' es:=by
 obtain⟨fn,tmps,todo,defers,mode,kind,round⟩:=f;obtain⟨⟨D5,hfn⟩,hk,hd,hr,ht⟩:=hT;dsimp only at hfn hk hd hr ht hm;subst hk hd hr hm;have hpl:=uP (P:=P) D5 tmps
 have eA:∀c2 r2 u,stepG P true (G ⟨fn,tmps,todo,[],.returning,.normal,none⟩ (c2::r2)) u=
   GStep.after (seen P fn ((results D5 tmps).runT P u #[]).2) (match((results D5 tmps).runT P u #[]).1 with
    | .ok v w=>doReturn P true ⟨fn,tmps,todo,[],.returning,.normal,none⟩ (c2::r2) none v w
    | .halt (.stuck s) w=>.ended (.stuck s (Frame.pos P ⟨fn,tmps,todo,[],.returning,.normal,none⟩)) w
    | .halt _ w=>.ended (.stuck "return: the result variables cannot be read" (Frame.pos P ⟨fn,tmps,todo,[],.returning,.normal,none⟩)) w):=λc2 r2 u=>by
  simp only[G,stepG,unwind,hfn];rfl
 cases hrun:(results D5 tmps).runT P v #[]with
 |mk x es=>
  cases x with
  |halt h v'=>
   refine .inl ?_;rw[eA,hrun];cases h<;>exact⟨_,_,_,rfl⟩
  |ok y v'=>
   obtain⟨w',hrun',hs',hsz,hev⟩:=uA _ w v #[] y v' es hpl hs hrun;have hsz':w.heap.size<=w'.heap.size:=aoy;obtain⟨ht1,ht2,ht3⟩:=uJ _ v #[] y v' es hpl hs.nv hrun;refine .inr ⟨y,_,seen P fn es,w',by rw[eA,hrun];simp only[doReturn,GStep.after];rfl,⟨ht1,ht2,λτ hτ=>by rw[eA,ht3 τ hτ];simp only[doReturn,GStep.after];rfl⟩,hs',hsz',λe he=>(hev e (mem_seen he)).resolve_left ai,λc2 r2=>?_⟩;rw[eA,hrun'];simp only[doReturn,GStep.after];rfl
def f0:Frame:={fn:=0,tmps:=#[],todo:=[.code (.refuse "")],defers:=[{target:=.nil,args:=#[]}],mode:=.run,kind:=.normal}
theorem aj_(u:World):∃o v es,stepG P true (G f0 []) u=.ended o v es:=⟨_,_,_,rfl⟩
theorem aaT(ch:List PanicEntry)(u:World):∃o v es,stepG P true (G {f0 with mode:=.panicking ch} []) u=.ended o v es:=⟨_,_,_,rfl⟩
def Stack(P:Program)(F:FuncId->Bool):List Frame->Prop
 |[]=>True
 |c::r=>(FV P F c/\c.mode=.run/\c.todo≠[]/\(∀v,FV P F (c.finish v)/\(c.finish v).mode=.run/\∀K,(AA K c).finish v=AA K (c.finish v)))/\Stack P F r
theorem LG{c:Frame}(hT:FV P F c)(hm:c.mode=.run)(hne:c.todo≠[]/\∀u,FV P F (c.finish u)):∀v,FV P F (c.finish v)/\(c.finish v).mode=.run/\∀K,(AA K c).finish v=AA K (c.finish v):=by
 intro v;refine⟨hne.2 v,?_⟩;replace hne:=hne.1;obtain⟨fn,tmps,todo,defers,mode,kind,round⟩:=c;obtain⟨h1,hk,hd,hr,S,ht,_⟩:=hT;dsimp only at h1 hk hd hr ht hm hne;subst hk hd hr hm;cases todo with
 |nil=>exact absurd rfl hne
 |cons it k=>
  have hit:=ht it ai;cases it with
  |inRegion ops is=>
   cases is with
   |nil=>exact⟨rfl,λK=>rfl⟩
   |cons i rest=>exact⟨rfl,λK=>rfl⟩
  |code c=>exact⟨rfl,λK=>rfl⟩
  |inBlock id=>exact⟨rfl,λK=>rfl⟩
  |inLoop c=>exact⟨rfl,λK=>rfl⟩
  |_=>cases hit
def afN(K:List Item)(cs:List Frame):List Frame->List Frame
 |[]=>cs
 |[b]=>AA K b::cs
 |c::d::r=>c::afN K cs (d::r)
inductive aka (P:Program) (X:Nat->Prop):Goroutine->World->Goroutine->World->Prop
 |refl (g:Goroutine) (w:World):aka P X g w g w
 |step {g g' g'':Goroutine} {w w' w'':World} {es:Array Event}:g.status=.running->stepG P true g w=.go g' w' es->JF X w' es->w.heap.size<=w'.heap.size->aka P X g' w' g'' w''->aka P X g w g'' w''
def DK(P:Program)(n:Nat)(f:Frame)(cs:List Frame)(v:World)(f':Frame)(cs':List Frame)(v':World):Prop:=runN P n (lone f cs v)=.next (lone f' cs' v')
theorem u_{n:Nat}{f f1 f':Frame}{cs cs1 cs':List Frame}{v v1 v':World}{es:Array Event}(he:stepG P true (G f cs) v=.go (G f1 cs1) v1 es)(h:DK P (n+1) f cs v f' cs' v'):DK P n f1 cs1 v1 f' cs' v':=by have:step P (lone f cs v)=.next (lone f1 cs1 v1):=step_lone_go apr;unfold DK at h;rw[runN,this]at h;exact h
theorem wJ{n:Nat}{f f':Frame}{cs cs':List Frame}{v v1 v':World}{o:Outcome}{es:Array Event}(he:stepG P true (G f cs) v=.ended o v1 es):¬DK P (n+1) f cs v f' cs' v':=by have:step P (lone f cs v)=.ended o v1:=step_lone_ended apr;intro h;unfold DK at h;rw[runN,this]at h;cases h
theorem xR{f f':Frame}{cs cs':List Frame}{v v':World}(h:DK P 0 f cs v f' cs' v'):f=f'/\cs=cs'/\v=v':=by unfold DK at h;rw[runN]at h;simp only[lone,Stepped.next.injEq,Machine.mk.injEq]at h;obtain⟨h1,h2,_⟩:=h;simp at h2;exact⟨h2.1,h2.2,h1⟩
theorem Qs:∀(n:Nat)(f:Frame)(r:List Frame)(ch:List PanicEntry)(v:World)(f':Frame)(r':List Frame)(v':World),(∀c∈r,FV P F c/\c.mode=.run)->f.mode=.panicking ch->((∃fn,P.funcs[f.fn]?=some fn)/\f.defers=[])->f'.mode=.run->
  ¬DK P n f (r++[f0]) v f' r' v'
 |0,f,r,ch,v,f',r',v',_,hm,_,hm',h=>by obtain⟨rfl,_⟩:=xR h;rw[hm']at hm;cases hm
 |n+1,f,r,ch,v,f',r',v',hr,hm,⟨⟨fn,hfn⟩,hd⟩,hm',h=>by
  have ad8:f.catches P=false:=ao_;cases r with
  |nil=>
   have e:stepG P true (G f ([]++[f0])) v=.go (G (f0.raise ch) []) v #[]:=by simp only[bf,G,stepG,hm,unwind,hd,ad8,bF,aU]
   have h2:=u_ e h;cases n with
   |zero=>
    obtain⟨h3,_⟩:=xR h2;rw[<-h3]at hm';cases hm'
   |succ n=>
    obtain⟨o,v1,es,he⟩:=aaT (P:=P) ch v;exact wJ (show stepG P true (G (f0.raise ch) []) v=_ from he) h2
  |cons c r=>
   have e:stepG P true (G f (c::r++[f0])) v=.go (G (c.raise ch) (r++[f0])) v #[]:=by simp only[aW,G,stepG,hm,unwind,hd,ad8,bF,aU]
   have h2:=u_ e h;obtain⟨hc,hcm⟩:=hr c ai;have er:c.raise ch={c with mode:=.panicking ch}:=by simp[Frame.raise,hcm]
   rw[er]at h2;exact Qs n {c with mode:=.panicking ch} r ch v f' r' v' (λx hx=>hr x jM) rfl ⟨hc.fn,hc.defers⟩ hm' h2
def acI(K:List Item)(cs:List Frame)(f:Frame)(r:List Frame):Goroutine:=
 match r with
 |[]=>G (AA K f) cs
 |c::r=>G f (afN K cs (c::r))
theorem Hm:∀{r:List Frame},Stack P F r->∀c∈r,FV P F c/\c.mode=.run
 |[],_,c,h=>by simp at h
 |d::r,hS,c,h=>by
  rcases dw.1 h with rfl|h
  .exact⟨hS.1.1,hS.1.2.1⟩
  .exact Hm hS.2 c h
theorem PD(n:Nat)(v:World)(fz:Frame)(v':World):¬DK P n f0 [] v fz [f0] v':=by
 intro h;cases n with
 |zero=>exact absurd (xR h).2.1 ai
 |succ n=>
  obtain⟨o,v1,es,he⟩:=aj_ (P:=P) v;exact wJ he h
