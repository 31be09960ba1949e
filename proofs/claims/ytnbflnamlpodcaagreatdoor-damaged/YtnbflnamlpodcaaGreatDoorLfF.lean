import Derived.Test.YtnbflnamlpodcaaGreatDoorLfD
set_option maxHeartbeats 1000000
namespace Go.Lf
open Go.Conc
section
variable (P:Program)(F:FuncId->Bool)
def Et(S:Zi):Item->Prop
 | .code c=>uq P F S c=true
 | .inBlock _=>True
 | .inLoop c=>uq P F S c=true
 | .inRegion ops _=>ops.all (E_ P F S)=true
 |_=>False
structure I9(f:Frame):Prop where
 fn:∃fn,P.funcs[f.fn]?=some fn
 kind:f.kind=.normal
 defers:f.defers=[]
 round:f.roundOf=none
 todo:∃S,(∀it∈f.todo,Et P F S it)/\F8 S f.tmps
end
section
variable {P:Program}{F:FuncId->Bool}{S:Zi}{tmps:Array Value}
theorem F8.nil:F8 [] tmps:=λx hx=>by simp at hx
def agD(d:Option Tmp)(tmps:Array Value)(u:Value):Array Value:=match d with
 |some d=>tmps.setIfInBounds d u
 |none=>tmps
theorem abI(t d:Nat)(u:Value):(tmps.setIfInBounds d u).getD t undef=if d=t then(if d<tmps.size then u else undef)else tmps.getD t undef:=by
 rw[kW,oz,kW];split
 .split
  .rfl
  .rfl
 .rfl
theorem F8.un(h:F8 S tmps)(d:Option Tmp):F8 S (agD d tmps undef):=λx hx=>by
 cases d with
 |none=>exact h x hx
 |some d=>
  simp only[agD];rw[abI];split
  .left;split<;>rfl
  .exact h x hx
theorem F8.put(h:F8 S tmps){o:Oper}{u:Value}(hu:∀x∈S,o.dst=some x.1->u=Go.undef\/∃fs cs,u=.func (.func x.2.1) fs cs/\fs.size+cs.size=x.2.2):F8 S (agD o.dst tmps u):=λx hx=>by
 cases hd:o.dst with
 |none=>exact h x hx
 |some d=>
  simp only[agD];rw[abI];split
  .rename_i e;split
   .exact hu x hx (by rw[hd,e])
   .exact .inl rfl
  .exact h x hx
theorem Zu{o:Oper}(ho:E_ P F S o=true){x:Nat×FuncId×Nat}(hx:x∈S)(hd:o.dst=some x.1):Rh S x.2 o.op=true:=by unfold E_ at ho;rw[fG]at ho;have:=iZ.1 ho.1 x hx;rw[aj (by rw[hd];simp)]at this;exact this
theorem afc{ρ:Operand->Value}(hτ:∀j,ρ (.tmp j)=tmps.getD j undef)(hS:F8 S tmps){o:Oper}{x:FuncId×Nat}(h:Rh S x o.op=true){v v':World}{es rJ:Array Event}{n:Next}(hr:(execOp ρ o).runT P v es=(.ok n v',rJ)):
  ∃u,n=.value u/\(u=undef\/∃fs cs,u=.func (.func x.1) fs cs/\fs.size+cs.size=x.2):=by
 obtain⟨dst,op,ty,pos,after,guard⟩:=o;cases op
 case move y=>
  cases y
  case tmp j=>
   have h1:(j,x)∈S:=auv;have e:(execOp ρ ⟨dst,.move (.tmp j),ty,pos,after,guard⟩).runT P v es=(.ok (.value (ρ (.tmp j))) v,es):=rfl;exact ax6
  all_goals cases h
 case assign y=>
  cases y
  case tmp j=>
   have h1:(j,x)∈S:=auv;have e:(execOp ρ ⟨dst,.assign (.tmp j),ty,pos,after,guard⟩).runT P v es=(.ok (.value (ρ (.tmp j))) v,es):=rfl;exact ax6
  all_goals cases h
 case makeFunc fn first cap=>
  cases fn
  case func g=>
   have h1:g=x.1/\first.size+cap.size=x.2:=auv;have e:(execOp ρ ⟨dst,.makeFunc (.func g) first cap,ty,pos,after,guard⟩).runT P v es=(.ok (.value (.func (.func g) (first.map ρ) (cap.map ρ))) v,es):=rfl;rw[e]at hr;cases hr;exact⟨_,rfl,.inr ⟨_,_,by rw[h1.1],by simpa using h1.2⟩⟩
  all_goals cases h
 all_goals cases h
theorem F8.enter{atO:Array Value}{n k:Nat}(ha:atO.size<=n)(h:∀x∈S,n<=x.1):F8 S (atO++Array.replicate k undef):=λx hx=>by
 have:=h x hx
 left
 rw[kW,Array.getElem?_append_right ae,Array.getElem?_replicate];split<;>rfl
end
def Dj(K:List Item)(f:Frame):Frame:={f with todo:=f.todo++K}
theorem zh(f:Frame):Dj [] f=f:=by simp[Dj]
def NW(X:Nat->Prop)(w:World)(es:Array Event):Prop:=∀e∈es,EvP X w e
section
variable {P:Program}{F:FuncId->Bool}{X:Nat->Prop}{Y:Nat->Option Obj}
inductive Way (P:Program) (F:FuncId->Bool) (f:Frame) (cs:List Frame) (w w':World) (es:Array Event) (g':Goroutine):Prop
 |here {f':Frame}:g'=G f' cs->I9 P F f'->(f'.mode=.run\/f'.mode=.returning)->(∀K zU,(f.todo=[]->K=[])->stepG P true (G (Dj K f) zU) w=.go (G (Dj K f') zU) w' es)->Way P F f cs w w' es g'
 |call {e:Frame}:g'=G e (f::cs)->I9 P F e->e.mode=.run->(f.todo≠[]/\∀u,I9 P F (f.finish u))->(∀K zU,stepG P true (G (Dj K f) zU) w=.go (G e (Dj K f::zU)) w' es)->Way P F f cs w w' es g'
 |back {c:Frame} {r:List Frame} {v:Value}:cs=c::r->g'=G (c.finish v) r->f.mode=.returning->(∀c2 r2,stepG P true (G f (c2::r2)) w=.go (G (c2.finish v) r2) w' es)->Way P F f cs w w' es g'
theorem Hy{id:Nat}{K:List Item}:∀{k k':List Item},exitTo id k=some k'->exitTo id (k++K)=some (k'++K)
 |[],_,h=>by simp[exitTo]at h
 |x::k,k',h=>by
  cases x<;>simp only[exitTo,aV]at h⊢ <;>first
   |exact Hy h
   |(split at h
     .rename_i hc;rw[aj hc];cases h;rfl
     .rename_i hc;rw[ah hc];exact Hy h)
theorem Hz{id:Nat}:∀{k k':List Item},exitTo id k=some k'->∀it∈k',it∈k
 |[],_,h=>by simp[exitTo]at h
 |x::k,k',h=>by
  intro it Fj
  cases x<;>simp only[exitTo]at h<;>first
   |exact kH _ (Hz h it Fj)
   |(split at h
     .cases h;exact kH _ Fj
     .exact kH _ (Hz h it Fj))
def Tp(P:Program)(g:Goroutine)(v:World)(g':Goroutine)(v':World)(es:Array Event):Prop:=
 v'.tape=v.tape/\v.drawn<=v'.drawn/\∀τ:Nat->Question->Nat,(∀p,v.drawn<=p->p<v'.drawn->τ p=v.tape p)->stepG P true g {v with tape:=τ}=.go g' {v' with tape:=τ} es
def am7(P:Program)(F:FuncId->Bool)(X:Nat->Prop)(Y:Nat->Option Obj)(f:Frame)(cs:List Frame)(w v:World):Prop:=
 (∃o v' es,stepG P true (G f cs) v=.ended o v' es)\/(∃ch v' es,stepG P true (G f cs) v=.go (G {f with mode:=.panicking ch} cs) v' es)\/
 ∃g' v' es w',stepG P true (G f cs) v=.go g' v' es/\Tp P (G f cs) v g' v' es/\xE X Y w' v'/\w.heap.size<=w'.heap.size/\NW X w' es/\Way P F f cs w w' es g'
theorem ctl{f f':Frame}{cs:List Frame}{w v:World}(hs:xE X Y w v)(h:∀K zU u,(f.todo=[]->K=[])->stepG P true (G (Dj K f) zU) u=.go (G (Dj K f') zU) u #[])(hT:I9 P F f')(hm:f'.mode=.run\/f'.mode=.returning):am7 P F X Y f cs w v:=by
 have key:∀u,stepG P true (G f cs) u=.go (G f' cs) u #[]:=λu=>by have:=h [] cs u (λ_=>rfl);rwa[zh,zh]at this
 exact axl
theorem abJ(K:List Item)(f:Frame):(Dj K f).eval=f.eval:=by
 funext x
 cases x<;>rfl
theorem amX(hF:xB P F){f:Frame}{cs:List Frame}{w v:World}(hT:I9 P F f)(hm:f.mode=.run)(hs:xE X Y w v):am7 P F X Y f cs w v:=by
 obtain⟨fn,tmps,todo,defers,mode,kind,round⟩:=f;obtain⟨⟨Gu,Nr⟩,hk,hd,hr,S,ht,hS⟩:=hT;dsimp only at Nr hk hd hr ht hS hm;subst hk hd hr hm;have mk:∀{acz:List Item}{ajJ:FrameMode},(∀it∈acz,Et P F S it)->I9 P F ⟨fn,tmps,acz,[],ajJ,.normal,none⟩:=λh=>⟨⟨Gu,Nr⟩,rfl,rfl,rfl,S,h,hS⟩
 cases todo with
 |nil=>exact ctl (f':=⟨fn,tmps,[],[],.returning,.normal,none⟩) hs (λK zU u hK=>by rw[hK rfl];rfl) (mk ai) (.inr rfl)
 |cons it k=>
  have Fj:=ht it ai;have hk:∀x∈k,Et P F S x:=λx hx=>ht x jB
  have two:∀{a:Item},Et P F S a->∀x∈a::k,Et P F S x:=λha x hx=>by
   rcases dA.1 hx with rfl|hx
   .exact ha
   .exact hk x hx
  cases it with
  |code c=>
   cases c with
   |skip=>exact ctl (f':=⟨fn,tmps,k,[],.run,.normal,none⟩) hs (λK zU u _=>rfl) (mk hk) (.inl rfl)
   |ret=>exact ctl (f':=⟨fn,tmps,.code .ret::k,[],.returning,.normal,none⟩) hs (λK zU u _=>rfl) (mk ht) (.inr rfl)
   |seq a b=>
    have hab:uq P F S a=true/\uq P F S b=true:=oK
    exact ctl (f':=⟨fn,tmps,.code a::.code b::k,[],.run,.normal,none⟩) hs (λK zU u _=>rfl) (mk λx hx=>by
     rcases dA.1 hx with rfl|hx
     .exact hab.1
     .exact two (a:=.code b) hab.2 x hx) (.inl rfl)
   |cond c a b=>
    have hab:uq P F S a=true/\uq P F S b=true:=oK;cases he:(⟨fn,tmps,.code (.cond c a b)::k,[],.run,.normal,none⟩:Frame).eval c with
    |bool t=>
     refine ctl (f':=⟨fn,tmps,.code (if t then a else b)::k,[],.run,.normal,none⟩) hs (λK zU u _=>?_) (mk (two (a:=.code (if t then a else b)) (by cases t<;>simp[Et,hab]))) (.inl rfl);have Np:(Dj K ⟨fn,tmps,.code (.cond c a b)::k,[],.run,.normal,none⟩).eval c=.bool t:=by rw[abJ];exact he
     simp only[Dj,aV]at Np;simp only[G,Dj,stepG,stepG.exec,aV,Np]
    |_=>exact .inl ⟨_,_,_,avv⟩
   |block id c=>exact ctl (f':=⟨fn,tmps,.code c::.inBlock id::k,[],.run,.normal,none⟩) hs (λK zU u _=>rfl) (mk λx hx=>by
    rcases dA.1 hx with rfl|hx
    .exact Fj
    .exact two (a:=.inBlock id) trivial x hx) (.inl rfl)
   |loop c=>exact ctl (f':=⟨fn,tmps,.code c::.inLoop c::k,[],.run,.normal,none⟩) hs (λK zU u _=>rfl) (mk λx hx=>by
    rcases dA.1 hx with rfl|hx
    .exact Fj
    .exact two (a:=.inLoop c) Fj x hx) (.inl rfl)
   |exit id=>
    cases he:exitTo id k with
    |none=>exact .inl ⟨_,_,_,avw⟩
    |some k'=>exact ctl (f':=⟨fn,tmps,k',[],.run,.normal,none⟩) hs (λK zU u _=>by simp only[G,Dj,stepG,stepG.exec,aV,Hy he,Option.elim]) (mk λx hx=>hk x (Hz he x hx)) (.inl rfl)
   |region id ops draw=>
    have ho:ops.all (E_ P F S)=true:=Fj;cases draw with
    |false=>exact ctl (f':=⟨fn,tmps,.inRegion ops (List.range ops.size)::k,[],.run,.normal,none⟩) hs (λK zU u _=>rfl) (mk (two (a:=.inRegion ops _) ho)) (.inl rfl)
    |true=>
     have hc:∀u:World,(choose (.order fn id)).run P u=.ok (u.tape u.drawn (.order fn id)) {u with drawn:=u.drawn+1}:=λu=>rfl
     have et:w.tape w.drawn (.order fn id)=v.tape v.drawn (.order fn id):=avs
     refine .inr (.inr ⟨_,{v with drawn:=v.drawn+1},#[],{w with drawn:=w.drawn+1},avx,⟨rfl,Nat.le_succ _,λτ hτ=>avy⟩,hs.draw,ak _,λe he=>mW,
      .here (f':=⟨fn,tmps,.inRegion ops (Region.schedule (P.follows .mixedOrders) ops (v.tape v.drawn (.order fn id)))::k,[],.run,.normal,none⟩) rfl (mk (two (a:=.inRegion ops _) ho)) (.inl rfl) λK zU _=>?_⟩)
     simp only[G,Dj,stepG,stepG.exec,aV,iI,bu,aU,hc,et]
   |_=>cases Fj
  |inBlock id=>exact ctl (f':=⟨fn,tmps,k,[],.run,.normal,none⟩) hs (λK zU u _=>rfl) (mk hk) (.inl rfl)
  |inLoop c=>exact ctl (f':=⟨fn,tmps,.code c::.inLoop c::k,[],.run,.normal,none⟩) hs (λK zU u _=>rfl) (mk λx hx=>by
     rcases dA.1 hx with rfl|hx
     .exact Fj
     .exact two (a:=.inLoop c) Fj x hx) (.inl rfl)
  |inRegion ops is=>
   cases is with
   |nil=>exact ctl (f':=⟨fn,tmps,k,[],.run,.normal,none⟩) hs (λK zU u _=>rfl) (mk hk) (.inl rfl)
   |cons i rest=>
    have ho:ops.all (E_ P F S)=true:=Fj;cases hw:((ops[i]?).map (Region.wanted · (yielded ops tmps))).getD false with
    |false=>
     refine ctl (f':=(⟨fn,tmps,.inRegion ops (i::rest)::k,[],.run,.normal,none⟩:Frame).finish undef) hs (λK zU u _=>?_) ⟨⟨Gu,Nr⟩,rfl,rfl,rfl,S,two (a:=.inRegion ops _) ho,hS.un _⟩ (.inl rfl);simp only[G,Dj,stepG,stepG.exec,aV,hw,bu,aU,Frame.finish]
    |true=>
     cases hoi:ops[i]? with
     |none=>rw[hoi]at hw;cases hw
     |some o=>
      have DX:E_ P F S o=true:=kY.1 ho o (eG hoi)
      have eA:∀K zU u,stepG P true (G (Dj K ⟨fn,tmps,.inRegion ops (i::rest)::k,[],.run,.normal,none⟩) zU) u=
        stepG.apply P true (Dj K ⟨fn,tmps,.inRegion ops (i::rest)::k,[],.run,.normal,none⟩) zU none (execOp (⟨fn,tmps,.inRegion ops (i::rest)::k,[],.run,.normal,none⟩:Frame).eval o) u:=λK zU u=>by
       rw[<-abJ K];rw[hoi]at hw;simp only[G,Dj,stepG,stepG.exec,aV,stepG.oper,Frame.oper?,hoi];rw[aj hw]
      obtain⟨vP,hlf⟩:=YY hF (ρ:=(⟨fn,tmps,.inRegion ops (i::rest)::k,[],.run,.normal,none⟩:Frame).eval) (λ_=>rfl) (λ_=>rfl) hS DX;have Yz:∀{x:FuncId×Nat}{v v':World}{es rJ:Array Event}{n:Next},Rh S x o.op=true->(execOp (⟨fn,tmps,.inRegion ops (i::rest)::k,[],.run,.normal,none⟩:Frame).eval o).runT P v es=(.ok n v',rJ)->∃u,n=.value u/\(u=undef\/∃fs cs,u=.func (.func x.1) fs cs/\fs.size+cs.size=x.2):=λh hr=>afc (λ_=>rfl) hS h hr
      have fin:∀u,(⟨fn,tmps,.inRegion ops (i::rest)::k,[],.run,.normal,none⟩:Frame).finish u=⟨fn,agD o.dst tmps u,.inRegion ops rest::k,[],.run,.normal,none⟩:=λu=>by simp only[Frame.finish,hoi,fB];rfl
      generalize execOp (⟨fn,tmps,.inRegion ops (i::rest)::k,[],.run,.normal,none⟩:Frame).eval o=sem at eA vP hlf Yz;have eA0:=eA [] cs v;rw[zh]at eA0;cases sJ:sem.runT P v #[]with
      |mk r es=>
       cases r with
       |halt h v'=>
        have hh:=vP.RN w v #[] h v' es hs sJ;cases h with
        |panic u=>
         exact .inr (.inl ⟨_,_,_,lI⟩)
        |stuck s=>exact .inl ⟨_,_,_,lI⟩
        |unsupported u=>
         cases u with
         |initOrder b=>exact hh.elim
         |_=>exact .inl ⟨_,_,_,lI⟩
        |_=>exact hh.elim
       |ok x v'=>
        obtain⟨w',EE,xn,hsz,hev⟩:=vP.VQ w v #[] x v' es hs sJ;obtain⟨TD,ht2,ht3⟩:=vP.tape v #[] x v' es hs.nv sJ
        have eAτ:∀τ:Nat->Question->Nat,stepG P true (G ⟨fn,tmps,.inRegion ops (i::rest)::k,[],.run,.normal,none⟩ cs) {v with tape:=τ}=stepG.apply P true ⟨fn,tmps,.inRegion ops (i::rest)::k,[],.run,.normal,none⟩ cs none sem {v with tape:=τ}:=λτ=>by have:=eA [] cs {v with tape:=τ};rwa[zh]at this
        have Z4:w.heap.size<=w'.heap.size:=auU;have aeq:NW X w' (seen P fn es):=λe he=>(hev e (mem_seen he)).resolve_left ai
        rcases uD sem hlf v #[] x v' es sJ with⟨u,rfl⟩|rfl|⟨f1,atO,hf1,has,rfl⟩
        .refine .inr (.inr ⟨_,_,seen P fn es,w',lJ,⟨TD,ht2,λτ hτ=>lH⟩,xn,Z4,aeq,
          .here (f':=(⟨fn,tmps,.inRegion ops (i::rest)::k,[],.run,.normal,none⟩:Frame).finish u) rfl avV (.inl rfl) λK zU _=>?_⟩)
         exact awI
        .refine .inr (.inr ⟨_,_,seen P fn es,w',lJ,⟨TD,ht2,λτ hτ=>lH⟩,xn,Z4,aeq,
          .here (f':=(⟨fn,tmps,.inRegion ops (i::rest)::k,[],.run,.normal,none⟩:Frame).finish undef) rfl avT (.inl rfl) λK zU _=>?_⟩)
         exact awI
        .obtain⟨fn1,c1,S1,g1,g2,g3,g4,g5⟩:=hf1
         refine .inr (.inr ⟨_,_,seen P fn es,w',lJ,⟨TD,ht2,λτ hτ=>lH⟩,xn,Z4,aeq,
          .call (e:=Frame.enter P f1 atO .normal) rfl ⟨⟨fn1,g1⟩,rfl,rfl,rfl,S1,λx hx=>?_,F8.enter has g5⟩ rfl ⟨ai,λu=>avU⟩ λK zU=>?_⟩)
         .exact axe
         .rw[eA];simp only[stepG.apply,aF,EE,GStep.after];rfl
  |_=>cases Fj
end
section
variable {P:Program}{F:FuncId->Bool}{X:Nat->Prop}{Y:Nat->Option Obj}
theorem wI(fn:Func)(tmps:Array Value):Plain P (results fn tmps):=by
 unfold results;refine qh (U5 (λx=>?_) _) λvs=>qg _
 cases x with
 |tmp t=>exact qg _
 |cell a t=>exact qh (DL _) λ_=>wK _ _
theorem QL{f c:Frame}{r:List Frame}{w v:World}(hT:I9 P F f)(hm:f.mode=.returning)(hs:xE X Y w v):(∃o v' es,stepG P true (G f (c::r)) v=.ended o v' es)\/
  ∃y v' es w',stepG P true (G f (c::r)) v=.go (G (c.finish y) r) v' es/\Tp P (G f (c::r)) v (G (c.finish y) r) v' es/\xE X Y w' v'/\w.heap.size<=w'.heap.size/\NW X w' es/\∀c2 r2,stepG P true (G f (c2::r2)) w=.go (G (c2.finish y) r2) w' es:=by
 obtain⟨fn,tmps,todo,defers,mode,kind,round⟩:=f;obtain⟨⟨Gu,Nr⟩,hk,hd,hr,ht⟩:=hT;dsimp only at Nr hk hd hr ht hm;subst hk hd hr hm;have vP:=wI (P:=P) Gu tmps
 have eA:∀c2 r2 u,stepG P true (G ⟨fn,tmps,todo,[],.returning,.normal,none⟩ (c2::r2)) u=
   GStep.after (seen P fn ((results Gu tmps).runT P u #[]).2) (match((results Gu tmps).runT P u #[]).1 with
    | .ok v w=>doReturn P true ⟨fn,tmps,todo,[],.returning,.normal,none⟩ (c2::r2) none v w
    | .halt (.stuck s) w=>.ended (.stuck s (Frame.pos P ⟨fn,tmps,todo,[],.returning,.normal,none⟩)) w
    | .halt _ w=>.ended (.stuck "return: the result variables cannot be read" (Frame.pos P ⟨fn,tmps,todo,[],.returning,.normal,none⟩)) w):=λc2 r2 u=>by
  simp only[G,stepG,unwind,Nr];rfl
 cases sJ:(results Gu tmps).runT P v #[]with
 |mk x es=>
  cases x with
  |halt h v'=>
   refine .inl ?_;rw[eA,sJ];cases h<;>exact⟨_,_,_,rfl⟩
  |ok y v'=>
   obtain⟨w',EE,xn,hsz,hev⟩:=vJ _ w v #[] y v' es vP hs sJ;have Z4:w.heap.size<=w'.heap.size:=auU;obtain⟨TD,ht2,ht3⟩:=vZ _ v #[] y v' es vP hs.nv sJ;refine .inr ⟨y,_,seen P fn es,w',by rw[eA,sJ];simp only[doReturn,GStep.after];rfl,⟨TD,ht2,λτ hτ=>by rw[eA,ht3 τ hτ];simp only[doReturn,GStep.after];rfl⟩,xn,Z4,λe he=>(hev e (mem_seen he)).resolve_left ai,λc2 r2=>?_⟩;rw[eA,EE];simp only[doReturn,GStep.after];rfl
def f0:Frame:={fn:=0,tmps:=#[],todo:=[.code (.refuse "")],defers:=[{target:=.nil,args:=#[]}],mode:=.run,kind:=.normal}
theorem ao0(u:World):∃o v es,stepG P true (G f0 []) u=.ended o v es:=⟨_,_,_,rfl⟩
theorem aeH(ch:List PanicEntry)(u:World):∃o v es,stepG P true (G {f0 with mode:=.panicking ch} []) u=.ended o v es:=⟨_,_,_,rfl⟩
def Stack(P:Program)(F:FuncId->Bool):List Frame->Prop
 |[]=>True
 |c::r=>(I9 P F c/\c.mode=.run/\c.todo≠[]/\(∀v,I9 P F (c.finish v)/\(c.finish v).mode=.run/\∀K,(Dj K c).finish v=Dj K (c.finish v)))/\Stack P F r
theorem PR{c:Frame}(hT:I9 P F c)(hm:c.mode=.run)(hne:c.todo≠[]/\∀u,I9 P F (c.finish u)):∀v,I9 P F (c.finish v)/\(c.finish v).mode=.run/\∀K,(Dj K c).finish v=Dj K (c.finish v):=by
 intro v;refine⟨hne.2 v,?_⟩;replace hne:=hne.1;obtain⟨fn,tmps,todo,defers,mode,kind,round⟩:=c;obtain⟨h1,hk,hd,hr,S,ht,_⟩:=hT;dsimp only at h1 hk hd hr ht hm hne;subst hk hd hr hm;cases todo with
 |nil=>exact absurd rfl hne
 |cons it k=>
  have Fj:=ht it ai;cases it with
  |inRegion ops is=>
   cases is with
   |nil=>exact⟨rfl,λK=>rfl⟩
   |cons i rest=>exact⟨rfl,λK=>rfl⟩
  |code c=>exact⟨rfl,λK=>rfl⟩
  |inBlock id=>exact⟨rfl,λK=>rfl⟩
  |inLoop c=>exact⟨rfl,λK=>rfl⟩
  |_=>cases Fj
def ajK(K:List Item)(cs:List Frame):List Frame->List Frame
 |[]=>cs
 |[b]=>Dj K b::cs
 |c::d::r=>c::ajK K cs (d::r)
inductive ao1 (P:Program) (X:Nat->Prop):Goroutine->World->Goroutine->World->Prop
 |refl (g:Goroutine) (w:World):ao1 P X g w g w
 |step {g g' g'':Goroutine} {w w' w'':World} {es:Array Event}:g.status=.running->stepG P true g w=.go g' w' es->NW X w' es->w.heap.size<=w'.heap.size->ao1 P X g' w' g'' w''->ao1 P X g w g'' w''
def F7(P:Program)(n:Nat)(f:Frame)(cs:List Frame)(v:World)(f':Frame)(cs':List Frame)(v':World):Prop:=runN P n (lone f cs v)=.next (lone f' cs' v')
theorem wV{n:Nat}{f f1 f':Frame}{cs cs1 cs':List Frame}{v v1 v':World}{es:Array Event}(he:stepG P true (G f cs) v=.go (G f1 cs1) v1 es)(h:F7 P (n+1) f cs v f' cs' v'):F7 P n f1 cs1 v1 f' cs' v':=by have:step P (lone f cs v)=.next (lone f1 cs1 v1):=step_lone_go avH;unfold F7 at h;rw[runN,this]at h;exact h
theorem xX{n:Nat}{f f':Frame}{cs cs':List Frame}{v v1 v':World}{o:Outcome}{es:Array Event}(he:stepG P true (G f cs) v=.ended o v1 es):¬F7 P (n+1) f cs v f' cs' v':=by have:step P (lone f cs v)=.ended o v1:=step_lone_ended avH;intro h;unfold F7 at h;rw[runN,this]at h;cases h
theorem zg{f f':Frame}{cs cs':List Frame}{v v':World}(h:F7 P 0 f cs v f' cs' v'):f=f'/\cs=cs'/\v=v':=by unfold F7 at h;rw[runN]at h;simp only[lone,Stepped.next.injEq,Machine.mk.injEq]at h;obtain⟨h1,h2,_⟩:=h;simp at h2;exact⟨h2.1,h2.2,h1⟩
theorem U7:∀(n:Nat)(f:Frame)(r:List Frame)(ch:List PanicEntry)(v:World)(f':Frame)(r':List Frame)(v':World),(∀c∈r,I9 P F c/\c.mode=.run)->f.mode=.panicking ch->((∃fn,P.funcs[f.fn]?=some fn)/\f.defers=[])->f'.mode=.run->
  ¬F7 P n f (r++[f0]) v f' r' v'
 |0,f,r,ch,v,f',r',v',_,hm,_,VB,h=>by obtain⟨rfl,_⟩:=zg h;rw[VB]at hm;cases hm
 |n+1,f,r,ch,v,f',r',v',hr,hm,⟨⟨fn,Nr⟩,hd⟩,VB,h=>by
  have ahU:f.catches P=false:=avq;cases r with
  |nil=>
   have e:stepG P true (G f ([]++[f0])) v=.go (G (f0.raise ch) []) v #[]:=by simp only[bg,G,stepG,hm,unwind,hd,ahU,bu,aU]
   have h2:=wV e h;cases n with
   |zero=>
    obtain⟨h3,_⟩:=zg h2;rw[<-h3]at VB;cases VB
   |succ n=>
    obtain⟨o,v1,es,he⟩:=aeH (P:=P) ch v;exact xX (show stepG P true (G (f0.raise ch) []) v=_ from he) h2
  |cons c r=>
   have e:stepG P true (G f (c::r++[f0])) v=.go (G (c.raise ch) (r++[f0])) v #[]:=by simp only[aV,G,stepG,hm,unwind,hd,ahU,bu,aU]
   have h2:=wV e h;obtain⟨hc,sF⟩:=hr c ai;have er:c.raise ch={c with mode:=.panicking ch}:=by simp[Frame.raise,sF]
   rw[er]at h2;exact U7 n {c with mode:=.panicking ch} r ch v f' r' v' (λx hx=>hr x jB) rfl ⟨hc.fn,hc.defers⟩ VB h2
def agE(K:List Item)(cs:List Frame)(f:Frame)(r:List Frame):Goroutine:=
 match r with
 |[]=>G (Dj K f) cs
 |c::r=>G f (ajK K cs (c::r))
theorem J4:∀{r:List Frame},Stack P F r->∀c∈r,I9 P F c/\c.mode=.run
 |[],_,c,h=>by simp at h
 |d::r,hS,c,h=>by
  rcases dA.1 h with rfl|h
  .exact⟨hS.1.1,hS.1.2.1⟩
  .exact J4 hS.2 c h
theorem Ul(n:Nat)(v:World)(fz:Frame)(v':World):¬F7 P n f0 [] v fz [f0] v':=by
 intro h;cases n with
 |zero=>exact absurd (zg h).2.1 ai
 |succ n=>
  obtain⟨o,v1,es,he⟩:=ao0 (P:=P) v;exact xX he h
