import Derived.Test.YtnbflnamlpodcaaGreatDoorLfM
import Derived.Test.YtnbflnamlpodcaaGreatDoorChecked
import Derived.Conc.WgWords
namespace Go.Lf
open Go.Conc
section
variable {P:aN}{X:Nat->Prop}{Y:Nat->aV}{D:Nat->ah->aH->Prop}{Stop:aG->ah->Prop}{f:aU}{k:b_}{cs:aP}{v w:ah}
theorem xZ.put(h:xZ X Y w v){r:Nat}{o:Obj}(hx:¬X r)(hy:Y r=none)(ho:wX o):xZ X Y (w.putObj r o) (v.putObj r o):=by
 refine⟨kG,λb hb=>by simpa using h.bound b hb,λb hb hyb=>?_,λb o2 hyb=>?_,λb hb=>?_,λb o2 hb=>?_,h.os,h.out,h.str,λb cs t fr hb hc=>?_⟩
 .by_cases e:b=r
  .subst e;by_cases hl:b<v.heap.size
   .rw[World.putObj_heap_same (by rw[h.size];exact hl),World.putObj_heap_same hl]
   .rw[kW awk,kW aS]
  .rw[World.putObj_heap_other e,World.putObj_heap_other e];exact h.same b hb hyb
 .have e:b≠r:=λe=>by rw[e,hy]at hyb;cases hyb
  rw[World.putObj_heap_other e,World.putObj_heap_other e];exact h.gho b o2 hyb
 .have e:b≠r:=λe=>hx (e▸hb)
  rw[World.putObj_heap_other e,World.putObj_heap_other e];exact h.doc b hb
 .by_cases e:b=r
  .subst e
   have hl:b<v.heap.size:=by have:=(dh.1 hb).1;exact ayh
   rw[World.putObj_heap_same hl]at hb;cases hb;exact ho
  .rw[World.putObj_heap_other e]at hb;exact h.nv b o2 hb
 .have e:b≠r:=λe=>hx (e▸hb)
  rw[World.putObj_heap_other e]at hc;exact h.unf b cs t fr hb hc
theorem qQ.put(h:qQ X Y w v){r:Nat}{o:Obj}(hx:¬X r)(hy:Y r=none)(ho:wX o):qQ X Y (w.putObj r o) (v.putObj r o):=by obtain⟨τ,d,h⟩:=h;exact⟨τ,d,h.put hx hy ho⟩
theorem qQ.alloc(h:qQ X Y w v){o:Obj}(ho:wX o):qQ X Y (w.alloc o) (v.alloc o):=by obtain⟨τ,d,h⟩:=h;exact⟨τ,d,h.push ho⟩
theorem qQ.size(h:qQ X Y w v):w.heap.size=v.heap.size:=by obtain⟨τ,d,h⟩:=h;exact h.size
theorem qQ.far(h:qQ X Y w v){r:Nat}(hr:v.heap.size<=r):¬X r/\Y r=none:=by
 obtain⟨τ,d,h⟩:=h;refine⟨λhx=>?_,?_⟩
 .have:=h.bound r (.inl hx);have:r<v.heap.size:=this;omega
 .cases hy:Y r with
  |none=>rfl
  |some o=>
   have:=h.bound r (.inr (by rw[hy];rfl));have:r<v.heap.size:=this;omega
theorem qQ.obj(h:qQ X Y w v){r:Nat}{o:Obj}(hx:¬X r)(hy:Y r=none)(ho:v.heap[r]?=some o):w.heap[r]?=some o:=by obtain⟨τ,d,h⟩:=h;exact(h.same r hx hy).trans ho
def U0(X:Nat->Prop)(Y:Nat->aV)(r:Nat):Prop:=¬X r/\Y r=none
theorem D9(hx:¬X f)(w:ah)(hl:f<w.heap.size):EvP X w ⟨.obj f,false,false⟩/\EvP X w ⟨.obj f,true,false⟩:=⟨.inr (.inl ⟨_,_,_,rfl,hl,hx⟩),.inr (.inl ⟨_,_,_,rfl,hl,hx⟩)⟩
theorem aiS{w:ah}{e:Event}(h:EvP X w e)(fn:aU):OM X w (seen P fn #[e]):=λe' Ol=>by have:=mem_seen Ol;simp at this;subst this;exact h
theorem OV{w:ah}{e1 e2:Event}(h1:EvP X w e1)(h2:EvP X w e2)(fn:aU):OM X w (seen P fn #[e1,e2]):=λe' Ol=>by
 have:=mem_seen Ol;simp at this;rcases this with rfl|rfl
 .exact h1
 .exact h2
theorem U1(fn:aU)(T:aB)(ps:Array Tmp)(assign body:Code):(Instr.enterLoop fn T ps assign body none).runT P w #[]=
  (.ok (w.heap.size+1,[{target:=.collected w.heap.size,args:=#[]}]) ((w.alloc (.deferred (some []))).alloc (.loop {state:=.ready,pending:=none,fn,tmps:=T,params:=ps,assign,body,defers:=w.heap.size})),#[]):=by
 rw[Sem.runT_eq,run_enterLoop_outer];rfl
theorem ady{l:Nat}{r:Loop}{args:aB}(h:w.heap[l]?=some (.loop r))(hs:args.size=r.params.size):(Instr.yield l args).runT P w #[]=
  (.ok (.round l r.fn ((r.params.zip args).foldl (λtmps (t,a)=>tmps.setIfInBounds t a) r.tmps) r.assign r.body) w,#[⟨.obj l,false,false⟩]):=by
 simp only[Instr.yield,Instr.getLoop,getObj,bind,Sem.bind,Sem.runT,h,pure,hs,ne_eq,not_true_eq_false,bQ];rfl
theorem Xb{l:Nat}{r:Loop}(h:w.heap[l]?=some (.loop r)):(Instr.endRound l none).runT P w #[]=(.ok (.bool true) (w.putObj l (.loop {r with state:=.ready,pending:=none})),#[⟨.obj l,false,false⟩,⟨.obj l,true,false⟩]):=by simp only[Instr.endRound,Instr.getLoop,getObj,setObj,bind,Sem.bind,Sem.runT,h,pure];rfl
theorem Zz{l:Nat}{r:Loop}(h:w.heap[l]?=some (.loop r))(hb:(r.state==.busy)=false):(Instr.endLoop l).runT P w #[]=(.ok r.pending (w.putObj l (.loop {r with state:=.exhausted})),#[⟨.obj l,false,false⟩,⟨.obj l,true,false⟩]):=by simp only[Instr.endLoop,Instr.getLoop,getObj,setObj,bind,Sem.bind,Sem.runT,h,pure,hb,dC,bQ];rfl
theorem OW{b:Nat}{ds:List Deferred}(h:w.heap[b]?=some (.deferred (some ds))):(Instr.takeDeferred b).runT P w #[]=(.ok ds (w.putObj b (.deferred none)),#[⟨.obj b,false,false⟩,⟨.obj b,true,false⟩]):=by simp only[Instr.takeDeferred,getObj,setObj,bind,Sem.bind,Sem.runT,h,pure];rfl
theorem ags{gf:aU}{fn:Func}{c:Code}(hf:P.funcs[gf]?=some fn)(P9:(fn.name== "runtime.NumGoroutine")=false)(hb:fn.body=some c)(avg:aB)(u:ah):(callFunc gf avg).runT P u #[]=(.ok (.enter gf avg) u,#[]):=by
 have hne:fn.body.isNone=false:=by rw[hb];rfl
 show((λp:aN=>match p.funcs[gf]? with
  |none=>stuck "call: no such function"
  |some fn=>if fn.name== "runtime.NumGoroutine" then pure .numGoroutine
   else if fn.body.isNone then(do
    mark (.extern gf)
    if let some e:=Extern.findNext fn then return<-e avg
    match Extern.find fn with
    |some e=>pure (.value (<-e avg))
    |none=>
     if fn.name.endsWith ".init" &&!fn.name.startsWith "(" &&!fn.name.startsWith "gosem." then pure (.value (.tuple #[]))
     else unsupported (.extern fn.name))
   else pure (.enter gf avg):aN->Sem Next) P).runT P u #[]=_
 dsimp only;rw[hf];dsimp only;rw[P9,hne];rfl
theorem adz(hD:uU X D){g:Operand}{ps:Array Tmp}{assign body:Code}{T:aB}{gf:aU}{lb:aB}{fn:Func}{c:Code}(hg:∀fr:aJ,fr.tmps=T->fr.eval g=.func (.func gf) #[] lb)(hf:P.funcs[gf]?=some fn)(P9:(fn.name== "runtime.NumGoroutine")=false)(hb:fn.body=some c)
  (h:U0 X Y v.heap.size->U0 X Y (v.heap.size+1)->rC P X Y D Stop none [] gf (Dn none [{target:=.collected v.heap.size,args:=#[]}] f T (.inRangeFunc (v.heap.size+1)::k)::cs) [.code c] (#[.func (.yield (v.heap.size+1)) #[] #[]]++lb++Array.replicate (fn.ntmps-(1+lb.size)) undef)
   ((v.alloc (.deferred (some []))).alloc (.loop {state:=.ready,pending:=none,fn:=f,tmps:=T,params:=ps,assign,body,defers:=v.heap.size}))):
  rC P X Y D Stop none [] f cs (.code (.rangeFunc g ps assign body)::k) T v:=by
 intro w hs;have h1:=hs.far (az _);have h2:=hs.far (r:=v.heap.size+1) ag;have hsz:=hs.size;refine .next rfl λd=>?_
 have xU:=((hs.at d).alloc (o:=.deferred (some [])) trivial).alloc (o:=.loop {state:=.ready,pending:=none,fn:=f,tmps:=T,params:=ps,assign,body,defers:=v.heap.size}) trivial;refine⟨_,_,#[],?_,hD.nil (by simp[World.at];omega),h h1 h2 _ xU⟩;have e1:(w.at d).heap.size=v.heap.size:=hsz
 have key:∀fr:aJ,fr.tmps=T->∀u l,(do let d<-resolve fr.eval (rangeCall g l) 0;invoke d.target d.args:Sem Next).runT P u #[]=(.ok (.enter gf (#[.func (.yield l) #[] #[]]++lb)) u,#[]):=λfr KZ u l=>by show(Deferred.ofValue (fr.eval g) (Array.map fr.eval #[.const (.func (.yield l) #[] #[])])>>=λd=>invoke d.target d.args:Sem Next).runT P u #[]=_;rw[hg fr KZ,show Array.map fr.eval #[.const (.func (.yield l) #[] #[])]=#[.func (.yield l) #[] #[]]by simp[Frame.eval]];show(callFunc gf (#[]++#[.func (.yield l) #[] #[]]++lb)).runT P u #[]=_;rw[ags hf P9 hb];simp
 simp only[G,Dn,stepG,stepG.exec,U1,stepG.apply,aX];rw[key _ rfl];simp only[e1,GStep.after,Frame.enter,hf,hb,fA,aQ,gK,nT];rfl
theorem adA(hD:uU X D){ops:Array Oper}{i:Nat}{rest:aA}{o:Oper}{T:aB}{l t:Nat}{r:Loop}{args:Array Operand}{ats:Array aF}{vs:aB}(ho:ops[i]?=some o)(hw:Region.wanted o (yielded ops T)=true)
  (uT:o.op=.call {callee:=.value (.tmp t),args,argTypes:=ats}) (ht:T.getD t undef=.func (.yield l) #[] #[]) (hvs:args.map (⟨T,[]⟩:Act).eval=vs) (hl:v.heap[l]?=some (.loop r)) (hO:U0 X Y l) (hps:vs.size=r.params.size)
  (h:rC P X Y D Stop (some l) [] r.fn (Dn none [] f T (.inRegion ops (i::rest)::k)::cs) [.code r.assign,.beginRound,.code r.body] ((r.params.zip vs).foldl (λtmps (t,a)=>tmps.setIfInBounds t a) r.tmps) v):
  rC P X Y D Stop none [] f cs (.inRegion ops (i::rest)::k) T v:=by
 intro w hs;refine .next rfl λd=>?_
 have FI:(w.at d).heap[l]?=some (.loop r):=(hs.at d).obj hO.1 hO.2 hl;have qK:l<(w.at d).heap.size:=(dh.1 FI).1;refine⟨_,_,seen P f #[⟨.obj l,false,false⟩],?_,hD.to (w:=w.at d) rfl (az _) (aiS (D9 hO.1 _ qK).1 _),h _ (hs.at d)⟩
 have e1:stepG P true (G (Dn none [] f T (.inRegion ops (i::rest)::k)) cs) (w.at d)=stepG.apply P true (Dn none [] f T (.inRegion ops (i::rest)::k)) cs none (execOp (Dn none [] f T (.inRegion ops (i::rest)::k)).eval o) (w.at d):=by simp only[G,Dn,stepG,stepG.exec,ho,fA,aQ];rw[ay hw];exact U2 (λc h=>by rw[uT]at h;cases h) (by simp only[Frame.oper?,ho])
 have e2:(execOp (Dn none [] f T (.inRegion ops (i::rest)::k)).eval o).runT P (w.at d) #[]=(.ok (.round l r.fn ((r.params.zip vs).foldl (λtmps (t,a)=>tmps.setIfInBounds t a) r.tmps) r.assign r.body) (w.at d),#[⟨.obj l,false,false⟩]):=by
  rw[<-ady (P:=P) (args:=vs) FI hps]
  have hev:(Dn none [] f T (.inRegion ops (i::rest)::k)).eval=(⟨T,[]⟩:Act).eval:=by
   funext x
   cases x<;>rfl
  rw[hev];obtain⟨dst,op,ty,pos,after,guard⟩:=o;dsimp only at uT;subst uT;show(Deferred.ofValue (T.getD t undef) (args.map (⟨T,[]⟩:Act).eval)>>=λd=>invoke d.target d.args:Sem Next).runT P (w.at d) #[]=_;rw[ht,hvs];show(Instr.yield l (#[]++vs)).runT P (w.at d) #[]=_;rw[Array.empty_append]
 rw[e1];simp only[stepG.apply,aX,e2,GStep.after];rfl
theorem adB(hD:uU X D){T:aB}{ds:List Deferred}{l:Nat}{r:Loop}(hl:v.heap[l]?=some (.loop r))(hr:r.state=.ready)(hO:U0 X Y l)(h:rC P X Y D Stop (some l) ds f cs k T (v.putObj l (.loop {r with state:=.busy}))):
  rC P X Y D Stop (some l) ds f cs (.beginRound::k) T v:=by
 intro w hs;refine .next rfl λd=>?_
 have FI:(w.at d).heap[l]?=some (.loop r):=(hs.at d).obj hO.1 hO.2 hl;have qK:l<(w.at d).heap.size:=(dh.1 FI).1;refine⟨_,_,seen P f #[⟨.obj l,false,false⟩,⟨.obj l,true,false⟩],?_,hD.to (w:=w.at d) avm (az _) (OV (D9 hO.1 _ qK).1 (D9 hO.1 _ qK).2 _),h _ ((hs.at d).put hO.1 hO.2 trivial)⟩
 have e2:(do Option.elim (some l) (stuck "beginRound: no round") Instr.beginRound;pure .skip:Sem Next).runT P (w.at d) #[]=(.ok .skip ((w.at d).putObj l (.loop {r with state:=.busy})),#[⟨.obj l,false,false⟩,⟨.obj l,true,false⟩]):=by simp only[Option.elim,Instr.beginRound,Instr.getLoop,getObj,setObj,bind,Sem.bind,Sem.runT,FI,pure,hr];rfl
 simp only[G,Dn,stepG,stepG.exec,stepG.apply,aX];rw[e2];rfl
theorem aiT(hD:uU X D){T:aB}{c:aJ}{l:Nat}{r:Loop}(hl:v.heap[l]?=some (.loop r))(hO:U0 X Y l)(h:∀w,qQ X Y w (v.putObj l (.loop {r with state:=.ready,pending:=none}))->r_ P D Stop (G (c.finish (.bool true)) cs) w):
  rC P X Y D Stop (some l) [] f (c::cs) [] T v:=by
 intro w hs;refine .next rfl λd=>?_
 have FI:(w.at d).heap[l]?=some (.loop r):=(hs.at d).obj hO.1 hO.2 hl;have qK:l<(w.at d).heap.size:=(dh.1 FI).1;refine⟨_,_,seen P f #[⟨.obj l,false,false⟩,⟨.obj l,true,false⟩],?_,hD.to (w:=w.at d) avm (az _) (OV (D9 hO.1 _ qK).1 (D9 hO.1 _ qK).2 _),h _ ((hs.at d).put hO.1 hO.2 trivial)⟩;simp only[G,Dn,stepG,stepG.exec,Xb FI,doReturn];rfl
theorem Xc(hD:uU X D){T:aB}{ds:List Deferred}{ro:Option Nat}{l:Nat}{r:Loop}(hl:v.heap[l]?=some (.loop r))(hr:(r.state==.busy)=false)(hp:r.pending=none)(hO:U0 X Y l)(h:rC P X Y D Stop ro ds f cs k T (v.putObj l (.loop {r with state:=.exhausted}))):
  rC P X Y D Stop ro ds f cs (.endRangeFunc l::k) T v:=by
 intro w hs;refine .next rfl λd=>?_
 have FI:(w.at d).heap[l]?=some (.loop r):=(hs.at d).obj hO.1 hO.2 hl;have qK:l<(w.at d).heap.size:=(dh.1 FI).1;refine⟨_,_,seen P f #[⟨.obj l,false,false⟩,⟨.obj l,true,false⟩],?_,hD.to (w:=w.at d) avm (az _) (OV (D9 hO.1 _ qK).1 (D9 hO.1 _ qK).2 _),h _ ((hs.at d).put hO.1 hO.2 trivial)⟩;simp only[G,Dn,stepG,stepG.exec,Zz FI hr,hp];rfl
theorem NG(hD:uU X D){fn:Func}(hf:P.funcs[f]?=some fn){T:aB}{c:aJ}{y:ai}(Ce:∀τ d,(results fn T).run P {v with tape:=τ,drawn:=d}=.ok y {v with tape:=τ,drawn:=d})
  (h:∀w,qQ X Y w v->r_ P D Stop (G (c.finish y) cs) w) (w:ah) (hs:qQ X Y w v):r_ P D Stop (G {Dn none [] f T k with mode:=.returning} (c::cs)) w:=by
 refine .next rfl λd'=>?_
 have xU:xZ X Y (w.at d') {v with tape:=λp=>w.tape (d'+p),drawn:=0}:=hs.re d' 0 _ λi q=>ax
 have hr:=Ce (λp=>w.tape (d'+p)) 0;obtain⟨w',h1,h2,h3,h4⟩:=vX (results fn T) (w.at d') _ #[] y _ ((results fn T).events P {v with tape:=λp=>w.tape (d'+p),drawn:=0} #[]) (wV fn T) xU avx;refine⟨G (c.finish y) cs,w',seen P f ((results fn T).events P {v with tape:=λp=>w.tape (d'+p),drawn:=0} #[]),?_,hD _ w' _ (fQ (xU.size.trans h2.size.symm)) (λe he=>(h4 e (mem_seen he)).resolve_left ax),h w' ⟨_,_,h2⟩⟩
 have eA:∀c2 r2 u,stepG P true (G {Dn none [] f T k with mode:=.returning} (c2::r2)) u=
   GStep.after (seen P f ((results fn T).runT P u #[]).2) (match((results fn T).runT P u #[]).1 with
    | .ok v w=>doReturn P true {Dn none [] f T k with mode:=.returning} (c2::r2) none v w
    | .halt (.stuck s) w=>.ended (.stuck s (Frame.pos P {Dn none [] f T k with mode:=.returning})) w
    | .halt _ w=>.ended (.stuck "return: the result variables cannot be read" (Frame.pos P {Dn none [] f T k with mode:=.returning})) w):=λc2 r2 u=>by
  simp only[G,stepG,unwind,Dn,hf];rfl
 exact azP
theorem agt(hD:uU X D){fn:Func}(hf:P.funcs[f]?=some fn){T:aB}{c:aJ}{y:ai}(Ce:∀τ d,(results fn T).run P {v with tape:=τ,drawn:=d}=.ok y {v with tape:=τ,drawn:=d})
  (h:∀w,qQ X Y w v->r_ P D Stop (G (c.finish y) cs) w):rC P X Y D Stop none [] f (c::cs) [] T v:=by
 intro w hs;exact .next rfl λd=>⟨G {Dn none [] f T []with mode:=.returning} (c::cs),w.at d,#[],rfl,hD.nil (az _),NG hD hf Ce h _ (hs.at d)⟩
theorem aiU(hD:uU X D){fn:Func}(hf:P.funcs[f]?=some fn){T:aB}{c:aJ}{b:Nat}{y:ai}(hb:v.heap[b]?=some (.deferred (some [])))(hO:U0 X Y b)(Ce:∀τ d,(results fn T).run P {v.putObj b (.deferred none)with tape:=τ,drawn:=d}=.ok y {v.putObj b (.deferred none)with tape:=τ,drawn:=d})
  (h:∀w,qQ X Y w (v.putObj b (.deferred none))->r_ P D Stop (G (c.finish y) cs) w):rC P X Y D Stop none [{target:=.collected b,args:=#[]}] f (c::cs) [.code .ret] T v:=by
 intro w hs;refine .next rfl λd=>⟨G {Dn none [{target:=.collected b,args:=#[]}] f T [.code .ret]with mode:=.returning} (c::cs),w.at d,#[],rfl,hD.nil (az _),?_⟩
 refine .next rfl λd'=>?_
 have I9:(w.at d').heap[b]?=some (.deferred (some [])):=(hs.at d').obj hO.1 hO.2 hb;have qK:b<(w.at d').heap.size:=(dh.1 I9).1;refine⟨G {Dn none [] f T [.code .ret]with mode:=.returning} (c::cs),(w.at d').putObj b (.deferred none),seen P f #[⟨.obj b,false,false⟩,⟨.obj b,true,false⟩],?_,hD.to (w:=w.at d') avm (az _) (OV (D9 hO.1 _ qK).1 (D9 hO.1 _ qK).2 _),NG hD hf Ce h _ ((hs.at d').put hO.1 hO.2 trivial)⟩;show stepG P true _ (w.at d')=_;simp only[G,Dn,stepG,unwind,OW I9];rfl
end
section
variable {P:aN}{F:aU->Bool}{X:Nat->Prop}{Y:Nat->aV}{Φ:aG->ah->Prop}{f:aU}{k:b_}{cs:aP}{a:Act}{v:ah}{ops:Array Oper}{i:Nat}{rest:aA}{o:Oper}
theorem Yj:∀(n:Nat)(f:aJ)(r:aP)(ch:List PanicEntry)(v:ah)(f':aJ)(r':aP)(v':ah),(∀c∈r,JB P F c/\c.mode=.run)->f.mode=.panicking ch->((∃fn,P.funcs[f.fn]?=some fn)/\f.defers=[])->(∀ch,f'.mode≠.panicking ch)->
  ¬GR P n f (r++[f0]) v f' r' v'
 |0,f,r,ch,v,f',r',v',_,hm,_,WC,h=>by obtain⟨rfl,_⟩:=zG h;exact WC _ hm
 |n+1,f,r,ch,v,f',r',v',hr,hm,⟨⟨fn,Oi⟩,hd⟩,WC,h=>by
  have aiV:f.catches P=false:=axe;cases r with
  |nil=>
   have e:stepG P true (G f ([]++[f0])) v=.go (G (f0.raise ch) []) v #[]:=by simp only[dA,G,stepG,hm,unwind,hd,aiV,dC,bQ]
   have h2:=xw e h;cases n with
   |zero=>
    obtain⟨h3,_⟩:=zG h2;exact WC ch (by rw[<-h3];rfl)
   |succ n=>
    obtain⟨o,v1,es,he⟩:=afg (P:=P) ch v;exact yA (show stepG P true (G (f0.raise ch) []) v=_ from he) h2
  |cons c r=>
   have e:stepG P true (G f (c::r++[f0])) v=.go (G (c.raise ch) (r++[f0])) v #[]:=by simp only[bT,G,stepG,hm,unwind,hd,aiV,dC,bQ]
   have h2:=xw e h;obtain⟨hc,sU⟩:=hr c ax;have er:c.raise ch={c with mode:=.panicking ch}:=by simp[Frame.raise,sU]
   rw[er]at h2;exact Yj n {c with mode:=.panicking ch} r ch v f' r' v' (λx hx=>hr x mM) rfl ⟨hc.fn,hc.defers⟩ WC h2
theorem agu{g:aU}(hg:JC P F g){avg:aB}(ha:avg.size<=arity P g):JB P F (Frame.enter P g avg .normal):=by obtain⟨fn1,c1,S1,g1,g2,g3,g4,g5⟩:=hg;refine⟨⟨fn1,g1⟩,rfl,rfl,rfl,S1,λx hx=>?_,GM.enter ha g5⟩;exact ayP
theorem agv(hm:P.follows .mixedOrders=true)(t:Nat):Region.schedule (P.follows .mixedOrders) ops t=Region.linearise.go .any ops ops.size t (Array.replicate ops.size false) []:=by simp only[Region.schedule,hm,av5,aX,Region.linearise]
theorem go_succ(fuel t:Nat)(l:Array Bool)(hne:Region.ready .any ops l≠[]):∃i t',i∈Region.ready .any ops l/\Region.linearise.go .any ops (fuel+1) t l []=i::Region.linearise.go .any ops fuel t' (l.setIfInBounds i true) []:=by
 simp only[Region.linearise.go]
 change∃i t',i∈Region.ready .any ops l/\(match(Region.ready .any ops l)[t%(Region.ready .any ops l).length]? with
   |some i=>Region.linearise.go .any ops fuel (t/(Region.ready .any ops l).length) (l.setIfInBounds i true) [i]
   |none=>[].reverse)=_
 cases hi:(Region.ready .any ops l)[t%(Region.ready .any ops l).length]? with
 |none=>
  refine absurd ?_ hne;cases hr:Region.ready .any ops l with
  |nil=>rfl
  |cons x xs=>
   rw[hr,aw9]at hi;have:=iR t (show 0<(x::xs).length by simp);omega
 |some i=>
  refine⟨i,t/(Region.ready .any ops l).length,jA hi,?_⟩;simp only[];rw[linearise_go_acc,aw7,aw6]
variable {D:Nat->ah->aH->Prop}{Stop:aG->ah->Prop}{ro:Option Nat}{ds:List Deferred}{T:aB}
theorem Jl:rC P X Y D Stop none [] f cs k T v↔uA P X Y D Stop f cs k ⟨T,[]⟩ v:=Iff.rfl
theorem yh(hD:uU X D){k k':b_}(h:∀w,stepG P true (G (Dn ro ds f T k) cs) w=.go (G (Dn ro ds f T k') cs) w #[])(hr:rC P X Y D Stop ro ds f cs k' T v):rC P X Y D Stop ro ds f cs k T v:=
 λw hs=>.next rfl λd=>⟨_,_,_,h (w.at d),hD.nil (az _),hr _ (hs.at d)⟩
theorem qy(hD:uU X D){c d:Code}(hr:rC P X Y D Stop ro ds f cs (.code c::.code d::k) T v):rC P X Y D Stop ro ds f cs (.code (.seq c d)::k) T v:=yh hD (λ_=>rfl) hr
theorem Et(hD:uU X D)(hr:rC P X Y D Stop ro ds f cs k T v):rC P X Y D Stop ro ds f cs (.code .skip::k) T v:=yh hD (λ_=>rfl) hr
theorem Ac(hD:uU X D){id:Nat}{c:Code}(hr:rC P X Y D Stop ro ds f cs (.code c::.inBlock id::k) T v):rC P X Y D Stop ro ds f cs (.code (.block id c)::k) T v:=yh hD (λ_=>rfl) hr
theorem H9(hD:uU X D){id:Nat}(hr:rC P X Y D Stop ro ds f cs k T v):rC P X Y D Stop ro ds f cs (.inBlock id::k) T v:=yh hD (λ_=>rfl) hr
theorem Ll(hD:uU X D){c:Code}(hr:rC P X Y D Stop ro ds f cs (.code c::.inLoop c::k) T v):rC P X Y D Stop ro ds f cs (.code (.loop c)::k) T v:=yh hD (λ_=>rfl) hr
theorem RS(hD:uU X D){c:Code}(hr:rC P X Y D Stop ro ds f cs (.code c::.inLoop c::k) T v):rC P X Y D Stop ro ds f cs (.inLoop c::k) T v:=yh hD (λ_=>rfl) hr
theorem Yf(hD:uU X D){id:Nat}{k':b_}(he:exitTo id k=some k')(hr:rC P X Y D Stop ro ds f cs k' T v):rC P X Y D Stop ro ds f cs (.code (.exit id)::k) T v:=yh hD (λ_=>by simp only[G,Dn,stepG,stepG.exec,he,Option.elim]) hr
theorem xu(hD:uU X D){t:Nat}{b:Bool}{c d:Code}(he:T.getD t undef=.bool b)(hr:rC P X Y D Stop ro ds f cs (.code (if b then c else d)::k) T v):rC P X Y D Stop ro ds f cs (.code (.cond (.tmp t) c d)::k) T v:=yh hD (λ_=>by simp only[G,Dn,stepG,stepG.exec,Frame.eval,he]) hr
theorem xH(hD:uU X D){id:Nat}(hr:rC P X Y D Stop ro ds f cs (.inRegion ops (List.range ops.size)::k) T v):rC P X Y D Stop ro ds f cs (.code (.region id ops false)::k) T v:=yh hD (λ_=>rfl) hr
theorem tY(hD:uU X D)(hr:rC P X Y D Stop ro ds f cs k T v):rC P X Y D Stop ro ds f cs (.inRegion ops []::k) T v:=yh hD (λ_=>rfl) hr
theorem rF(hF:xY P F)(hD:uU X D){c:Code}(hc:Hz P F c=true)(hf:∃fn,P.funcs[f]?=some fn)
  (h:∀R:Act->ah->Prop,(∀T' v',rC P X Y D Stop ro ds f cs k T' v'->R ⟨T',[]⟩ v')->∀τ d,c.wp P (λe a' v'=>e=.normal/\a'.defers=[]/\R a' v') ⟨T,[]⟩ {v with tape:=τ,drawn:=d}):rC P X Y D Stop ro ds f cs (.code c::k) T v:=
 agw hF hD hc hf λτ d=>h (λa' v'=>rC P X Y D Stop ro ds f cs k a'.tmps v') (λ_ _ x=>x) τ d
theorem wo(hD:uU X D){g:aU}{fn:Func}{c:Code}{args:Array Operand}{ats:Array aF}{vs:aB}{n:Nat}(ho:ops[i]?=some o)(hw:Region.wanted o (yielded ops T)=true)(uT:o.op=.call {callee:=.value (.func g),args,argTypes:=ats})
  (hf:P.funcs[g]?=some fn) (P9:(fn.name== "runtime.NumGoroutine")=false) (hb:fn.body=some c) (hvs:args.map (⟨T,[]⟩:Act).eval=vs) (hn:fn.ntmps-vs.size=n)
  (h:rC P X Y D Stop none [] g (Dn none [] f T (.inRegion ops (i::rest)::k)::cs) [.code c] (vs++Array.replicate n undef) v):rC P X Y D Stop none [] f cs (.inRegion ops (i::rest)::k) T v:=by
 subst hvs hn;intro w hs;refine .next rfl λd=>?_
 obtain⟨g1,w1,es,hgo,rfl,rfl,rfl⟩:=goes_elim (goes_call (P:=P) (main:=true) (b:=base f) (a:=⟨T,[]⟩) (k:=k) (cs:=cs) (w:=w.at d) (rest:=rest) (K:=λg1 w1 es=>g1=G ((base g).at {tmps:=args.map (⟨T,[]⟩:Act).eval++Array.replicate (fn.ntmps-(args.map (⟨T,[]⟩:Act).eval).size) undef,defers:=[]} [.code c]) ((base f).at ⟨T,[]⟩ (.inRegion ops (i::rest)::k)::cs)/\w1=w.at d/\es=#[]) ho hw oH uT hf P9 hb ⟨rfl,rfl,rfl⟩);exact⟨_,_,_,hgo,hD.nil (az _),h _ (hs.at d)⟩
theorem qC(hF:xY P F)(hD:uU X D)(u:ai)(ho:ops[i]?=some o)(hw:Region.wanted o (yielded ops T)=true)(Em:alW P F o=true)(sW:∀z:ah,z.heap=v.heap->(execOp (⟨T,[]⟩:Act).eval o).run P z=.ok (.value u) z)
  (h:rC P X Y D Stop none [] f cs (.inRegion ops rest::k) ((⟨T,[]⟩:Act).put o.dst u).tmps v):rC P X Y D Stop none [] f cs (.inRegion ops (i::rest)::k) T v:=by
 have hd:((⟨T,[]⟩:Act).put o.dst u)=⟨((⟨T,[]⟩:Act).put o.dst u).tmps,[]⟩:=by cases o.dst<;>rfl
 refine alX (a:=⟨T,[]⟩) hF hD ho hw Em λτ d=>⟨_,sW _ rfl,?_⟩
 rw[hd];exact λw ⟨τ0,d0,hs⟩=>h w ⟨τ0,d0,hs⟩
theorem adx(hF:xY P F)(hD:uU X D){a:Addr}{u:ai}(ho:ops[i]?=some o)(hw:Region.wanted o (yielded ops T)=true)(Em:alW P F o=true)(aub:o.dst=none)(sW:∀z:ah,z.heap=v.heap->(execOp (⟨T,[]⟩:Act).eval o).run P z=.ok .skip (z.setCell a u))
  (h:rC P X Y D Stop none [] f cs (.inRegion ops rest::k) T (v.setCell a u)):rC P X Y D Stop none [] f cs (.inRegion ops (i::rest)::k) T v:=by
 intro w hs;refine .next rfl λd=>?_
 have h0:=sW {v with tape:=λp=>w.tape (d+p),drawn:=0} rfl;obtain⟨w',h1,h2,h3,h4⟩:=aij hF Em h0 (hs.re d 0 (λp=>w.tape (d+p)) λi q=>ax) f;refine⟨G (Dn none [] f T (.inRegion ops rest::k)) cs,w',listed P f ⟨T,[]⟩ o (w.at d),?_,hD _ _ _ h3 h4,h w' ⟨_,_,h2⟩⟩
 have DR:((base f).at ⟨T,[]⟩ (.inRegion ops (i::rest)::k)).finish undef=Dn none [] f T (.inRegion ops rest::k):=by rw[Frame.finish_at,ho];simp only[gK,aub];rfl
 show stepG P true (G ((base f).at ⟨T,[]⟩ (.inRegion ops (i::rest)::k)) cs) (w.at d)=_;rw[stepG_oper ho hw,<-DR];simp[stepG.apply,h1,G,Frame.at,base,GStep.after,listed]
theorem TF(l:Nat)(y:ai):(Dn ro ds f T (.inRangeFunc l::k)).finish y=Dn ro ds f T (.endRangeFunc l::k):=rfl
theorem vM(ho:ops[i]?=some o)(y:ai):(Dn ro ds f T (.inRegion ops (i::rest)::k)).finish y=Dn ro ds f ((⟨T,[]⟩:Act).put o.dst y).tmps (.inRegion ops rest::k):=by simp only[Frame.finish,Dn,ho,gK,Act.put];cases o.dst<;>rfl
end
section
variable {P:aN}{F:aU->Bool}{X:Nat->Prop}{Y:Nat->aV}{D:Nat->ah->aH->Prop}{Stop:aG->ah->Prop}
variable (P F X Y D Stop)in
structure SgC(cs:aP)(Q:aJ->ah->Prop)(s:Sg):Prop where
 tf:JB P F s.f
 mode:s.f.mode=.run\/s.f.mode=.returning
 stack:Stack P F s.r
 WM:qQ X Y s.w s.u
 law:∀τ:Nat->Question->Nat,(∀p,p<s.u.drawn->τ p=s.u.tape p)->∃n fz v',GR P n s.f (s.r++[f0]) {s.u with tape:=τ} fz [f0] v'/\fz.mode=.returning/\Q fz v'
 no:¬r_ P D Stop (G s.f (s.r++cs)) s.w
theorem ZA{cs:aP}{Q:aJ->ah->Prop}(hK:∀fz v' w',JB P F fz->fz.mode=.returning->Q fz v'->qQ X Y w' v'->r_ P D Stop (G fz cs) w'){s:Sg}(hi:SgC P F X Y D Stop cs Q s){τ:Nat->Question->Nat}{fz:aJ}{v':ah}
  (h:GR P 0 s.f (s.r++[f0]) {s.u with tape:=τ} fz [f0] v') (hm:fz.mode=.returning) (hq:Q fz v'):False:=by
 obtain⟨h1,h2,h3⟩:=zG h
 have hr:s.r=[]:=by exact ayM
 apply hi.no;have:G s.f (s.r++cs)=G fz cs:=awH;rw[this];refine hK fz v' s.w (h1▸hi.tf) hm hq ?_;rw[<-h3];exact hi.WM.to τ s.u.drawn
theorem U3(hF:xY P F)(hD:uU X D){cs:aP}{Q:aJ->ah->Prop}(hK:∀fz v' w',JB P F fz->fz.mode=.returning->Q fz v'->qQ X Y w' v'->r_ P D Stop (G fz cs) w'){s:Sg}
  (hi:SgC P F X Y D Stop cs Q s):∃s',SgC P F X Y D Stop cs Q s'/\Dy P s s':=by
 obtain⟨d,hd⟩:∃d,∀g' w' es,stepG P true (G s.f (s.r++cs)) (s.w.at d)=.go g' w' es->D s.w.heap.size w' es->¬r_ P D Stop g' w':=by
  refine jG λRt=>hi.no (.next rfl λd=>?_)
  exact ay0
 let τ₁:Nat->Question->Nat:=λp q=>if p<s.u.drawn then s.u.tape p q else s.w.tape (d+(p-s.u.drawn)) q
 have hs:xZ X Y (s.w.at d) {s.u with tape:=τ₁}:=hi.WM.re d s.u.drawn τ₁ λi q=>by
  show s.w.tape (d+i) q=if s.u.drawn+i<s.u.drawn then _ else _
  exact ayI
 have hag:∀p,p<s.u.drawn->τ₁ p=s.u.tape p:=λp hp=>by
  funext q
  exact ayN
 obtain⟨n,fz,v',hn,hzm,hq⟩:=hi.law τ₁ hag;cases n with
 |zero=>exact(ZA hK hi hn hzm hq).elim
 |succ n=>
  have mk:∀(f':aJ)(r':aP)(u₂ w₂:ah)(es:aH),JB P F f'->(f'.mode=.run\/f'.mode=.returning)->Stack P F r'->xZ X Y w₂ u₂->Tp P (G s.f (s.r++[f0])) {s.u with tape:=τ₁} (G f' (r'++[f0])) u₂ es->
    stepG P true (G s.f (s.r++cs)) (s.w.at d)=.go (G f' (r'++cs)) w₂ es->s.w.heap.size<=w₂.heap.size->OM X w₂ es->∃s',SgC P F X Y D Stop cs Q s'/\Dy P s s':=λf' r' u₂ w₂ es h1 h2 h3 h4 h5 h6 h8 h7=>by
   obtain⟨t1,t2,t3⟩:=h5;dsimp only at t1 t2 t3;refine⟨⟨f',r',u₂,w₂⟩,⟨h1,h2,h3,h4.t,λτ hτ=>?_,hd _ _ _ h6 (hD _ _ _ h8 h7)⟩,t2,λp hp=>awx,λτ hτ=>⟨es,t3 τ λp EE CE=>awD⟩⟩;dsimp only at hτ;obtain⟨n,fz,v',hn,hzm,hq⟩:=hi.law τ λp hp=>awF
   cases n with
   |zero=>exact(ZA hK hi hn hzm hq).elim
   |succ n=>exact⟨n,fz,v',xw (t3 τ λp _ CE=>awE) hn,hzm,hq⟩
  rcases hi.mode with hm|hm
  .rcases anV (cs:=s.r++[f0]) hF hi.tf hm hs with⟨o,MB,rZ,he⟩|⟨ch,MB,rZ,he⟩|⟨g',MB,rZ,w',he,htp,xU,hsz,hev,aiW⟩
   .exact ayk
   .exact absurd (xw he hn) (Yj (F:=F) n _ s.r ch _ fz [f0] v' (Lm hi.stack) rfl ⟨hi.tf.fn,hi.tf.defers⟩ (λch e=>by rw[hzm]at e;cases e))
   .cases aiW with
    |@here f' hg XT WC hB=>
     subst hg;refine mk f' s.r MB w' rZ XT WC hi.stack xU htp ?_ hsz hev;have:=hB [] (s.r++cs) (λ_=>rfl);rw[zH,zH]at this;exact this
    |@call e hg hTe hme hne hB=>
     subst hg;refine mk e (s.f::s.r) MB w' rZ hTe (.inl hme) ⟨⟨hi.tf,hm,hne.1,QD hi.tf hm hne⟩,hi.stack⟩ xU htp ?_ hsz hev;have:=hB [] (s.r++cs);rw[zH]at this;exact this
    |back _ _ hr _=>rw[hm]at hr;cases hr
  .cases hr:s.r with
   |nil=>
    rw[hr]at hn;rcases RV (c:=f0) (r:=[]) (F:=F) hi.tf hm hs with⟨o,MB,rZ,he⟩|⟨y,MB,rZ,w',he,_⟩
    .exact ayk
    .exact absurd (xw he hn) (U4 n _ fz v')
   |cons c r=>
    have hS:=hi.stack;rw[hr]at hn hS mk;rcases RV (c:=c) (r:=r++[f0]) (F:=F) hi.tf hm hs with⟨o,MB,rZ,he⟩|⟨y,MB,rZ,w',he,htp,xU,hsz,hev,hB⟩
    .exact ayk
    .obtain⟨hTc,hmc,_⟩:=hS.1.2.2.2 y;exact mk (c.finish y) r MB w' rZ hTc (.inl hmc) hS.2 xU htp (hB c (r++cs)) hsz hev
theorem ara(hF:xY P F)(hD:uU X D){cs:aP}{Q:aJ->ah->Prop}{f:aJ}(hT:JB P F f)(hm:f.mode=.run){v:ah}(h:∀τ d,∃n fz v',GR P n f [f0] {v with tape:=τ,drawn:=d} fz [f0] v'/\fz.mode=.returning/\Q fz v')
  {w:ah} (hs:qQ X Y w v) (hK:∀fz v' w',JB P F fz->fz.mode=.returning->Q fz v'->qQ X Y w' v'->r_ P D Stop (G fz cs) w'):r_ P D Stop (G f cs) w:=by
 refine jG λRt=>?_
 have start:SgC P F X Y D Stop cs Q ⟨f,[],{v with drawn:=0},w⟩:=⟨hT,.inl hm,trivial,hs.to v.tape 0,λτ _=>h τ 0,Rt⟩
 let nx:{s//SgC P F X Y D Stop cs Q s}->{s//SgC P F X Y D Stop cs Q s}:=λs=>⟨(U3 hF hD hK s.2).choose,(U3 hF hD hK s.2).choose_spec.1⟩
 have nxs:∀s,Dy P s.1 (nx s).1:=λs=>(U3 hF hD hK s.2).choose_spec.2
 let q:Nat->{s//SgC P F X Y D Stop cs Q s}:=λn=>Nat.rec ⟨_,start⟩ (λ_ s=>nx s) n
 have qs:∀n,Dy P (q n).1 (q (n+1)).1:=λn=>nxs (q n)
 have mono:∀n m,n<=m->(q n).1.u.drawn<=(q m).1.u.drawn/\∀p,p<(q n).1.u.drawn->(q m).1.u.tape p=(q n).1.u.tape p:=by
  intro n m Tm
  induction m with
  |zero=>
   obtain rfl:n=0:=ag;exact⟨az _,λ_ _=>rfl⟩
  |succ m ih=>
   rcases bJ n (m+1)with qK|Ws
   .exact ayR
   .exact ayC
 have dec:∀p,Decidable (∃n,p<(q n).1.u.drawn):=λp=>Classical.propDecidable _
 let τ:Nat->Question->Nat:=λp=>if h:∃n,p<(q n).1.u.drawn then(q h.choose).1.u.tape p else λ_=>0
 have agree:∀n p,p<(q n).1.u.drawn->τ p=(q n).1.u.tape p:=λn p hp=>by
  have hex:∃n,p<(q n).1.u.drawn:=⟨n,hp⟩;show(if h:∃n,p<(q n).1.u.drawn then(q h.choose).1.u.tape p else λ_=>0)=_;rw[lI hex];have hc:=hex.choose_spec;rcases avR n hex.choose with hle|hle
  .exact(mono n _ hle).2 p hp
  .exact ayL
 have never:∀(m i:Nat)(fz:aJ)(v':ah),GR P m (q i).1.f ((q i).1.r++[f0]) {(q i).1.u with tape:=τ} fz [f0] v'->fz.mode=.returning->Q fz v'->False:=by
  intro m
  induction m with
  |zero=>exact λi fz v' h hm hq=>ZA hK (q i).2 h hm hq
  |succ m ih=>
   intro i fz v' h hm hq;obtain⟨es,he⟩:=(qs i).2.2 τ λp _ hp=>agree (i+1) p hp
   exact ih (i+1) fz v' (xw he h) hm hq
 obtain⟨n,fz,v',hn,hm,hq⟩:=(q 0).2.law τ λp hp=>agree 0 p hp
 exact never n 0 fz v' hn hm hq
variable {f:aU}{k:b_}{cs:aP}{a:Act}{v:ah}{ops:Array Oper}{i:Nat}{rest:aA}{o:Oper}
theorem NH(hF:xY P F)(hD:uU X D){g:aU}(hg:JC P F g){args:Array Operand}{ats:Array aF}{vs:aB}{R:ai->ah->Prop}(ho:ops[i]?=some o)(hw:Region.wanted o (yielded ops a.tmps)=true)(uT:o.op=.call {callee:=.value (.func g),args,argTypes:=ats})(hvs:args.map a.eval=vs)(hsz:vs.size<=arity P g)
  (hc:∀τ d,Calls P g vs {v with tape:=τ,drawn:=d} λe v'=>∃y,e=.returned y/\R y v') (h:∀y v',R y v'->uA P X Y D Stop f cs (.inRegion ops rest::k) (a.put o.dst y) v'):uA P X Y D Stop f cs (.inRegion ops (i::rest)::k) a v:=by
 subst hvs;intro w hs;obtain⟨fn1,c1,S1,g1,g2,g3,g4,g5⟩:=id hg;refine .next rfl λd=>?_
 obtain⟨g1',w1',MC,hgo,rfl,rfl,rfl⟩:=goes_elim (goes_call (P:=P) (main:=true) (b:=base f) (a:=a) (k:=k) (cs:=cs) (w:=w.at d) (rest:=rest) (K:=λg1 w1 es=>g1=G ((base g).at {tmps:=args.map a.eval++Array.replicate (fn1.ntmps-(args.map a.eval).size) undef,defers:=[]} [.code c1]) ((base f).at a (.inRegion ops (i::rest)::k)::cs)/\w1=w.at d/\es=#[]) ho hw oH uT g1 g2 g3 ⟨rfl,rfl,rfl⟩);refine⟨_,_,_,hgo,hD.nil (az _),?_⟩;have e0:G ((base g).at {tmps:=args.map a.eval++Array.replicate (fn1.ntmps-(args.map a.eval).size) undef,defers:=[]} [.code c1]) ((base f).at a (.inRegion ops (i::rest)::k)::cs)=G (Frame.enter P g (args.map a.eval) .normal) ((base f).at a (.inRegion ops (i::rest)::k)::cs):=by rw[<-enter_at _ g1 g3]
 rw[e0];refine ara (Q:=λfr v'=>∃y,R y v'/\fr.defers=[]/\fr.kind=.normal/\∃fn,P.funcs[fr.fn]?=some fn/\(results fn fr.tmps).run P v'=.ok y v') hF hD (agu hg hsz) rfl (λτ d'=>?_) (hs.at d) (λfz v' w' hT hzm hQ xU=>?_)
 .obtain⟨e,v',fr,⟨y,rfl,hR⟩,aqs,Oi,hlv⟩:=hc τ d' [f0];obtain⟨n,hn⟩:Steps P (lone (Frame.enter P g (args.map a.eval) .normal) [f0] {v with tape:=τ,drawn:=d'}) (lone fr [f0] v'):=aqs;obtain⟨hm,hd,hk,fn,hf,hr⟩:=hlv;exact⟨n,fr,v',hn,hm,y,hR,hd,hk,fn,hf,hr⟩
 .obtain⟨y,hR,hd,hk,fn,hf,hr⟩:=hQ;refine .next rfl λd=>?_
  obtain⟨τ0,d0,Ou⟩:=xU
  have yY:xZ X Y (w'.at d) {v' with tape:=λp=>w'.tape (d+(p-v'.drawn))}:=qQ.re ⟨τ0,d0,Ou⟩ d v'.drawn _ λi q=>by exact azU
  obtain⟨_,_,ht3⟩:=wM (results fn fz.tmps) v' #[] y v' ((results fn fz.tmps).events P v' #[]) (wV fn fz.tmps) Ou.nv avx;have Hl:=ht3 (λp=>w'.tape (d+(p-v'.drawn))) (λp h1 h2=>absurd h2 ag);obtain⟨w3,h1,h2,h3,h4⟩:=vX (results fn fz.tmps) (w'.at d) _ #[] y _ _ (wV fn fz.tmps) yY Hl;refine⟨G ((base f).at (a.put o.dst y) (.inRegion ops rest::k)) cs,w3,seen P fz.fn ((results fn fz.tmps).events P v' #[]),?_,hD _ _ _ (fQ (yY.size.trans h2.size.symm)) (λe he=>(h4 e (mem_seen he)).resolve_left ax),h y v' hR w3 ⟨_,_,h2⟩⟩
  have eF:((base f).at a (.inRegion ops (i::rest)::k)).finish y=(base f).at (a.put o.dst y) (.inRegion ops rest::k):=by simp only[Frame.finish,Frame.at,ho,gK,Act.put];cases o.dst<;>rfl
  obtain⟨fnx,tmps,todo,defers,mode,kind,round⟩:=fz;dsimp only at hzm hd hk hf hr h1 h4;subst hzm hd hk;show stepG P true _ (w'.at d)=_;simp only[G,stepG,unwind,hf,h1,doReturn,GStep.after];rw[eF];rfl
theorem agx(hD:uU X D){id:Nat}(h:∀t,uA P X Y D Stop f cs (.inRegion ops (Region.schedule (P.follows .mixedOrders) ops t)::k) a v):uA P X Y D Stop f cs (.code (.region id ops true)::k) a v:=by
 intro w hs;have hc:∀u:ah,(choose (.order f id)).run P u=.ok (u.tape u.drawn (.order f id)) {u with drawn:=u.drawn+1}:=λu=>rfl
 refine .next rfl λd=>⟨_,(w.at (d+1)),#[],?_,hD.nil (az _),h (w.tape d (.order f id)) _ (hs.at (d+1))⟩
 simp only[G,base,Frame.at,stepG,stepG.exec,jm,dC,bQ,hc];rfl
end
#print axioms NH
end Go.Lf
namespace Go.Proofs.Y
open Go.Proofs.Tryz
abbrev link:Go.Conc.Lib.WgLink:={add:=48,done:=50,wait:=53,relMerge:=78,disable:=79,enable:=80,inBubble:=81,associate:=82,fatal:=83,uOr:=84,uAdd:=85,raceRead:=86,uLoad:=87,uStore:=88,disassociate:=89,semrelease:=90,acquire:=94,isAssociated:=95,uCas:=96,raceWrite:=97,semacquire:=98,orU64:=114,addU64:=115,loadU64:=116,storeU64:=117,casU64:=120,tWgP:=163,tUP:=148,tAssoc:=165,tWg:=112,tAU:=109,tU64:=64,tUint:=161,tU32:=110,tPU32:=169,tPAU:=204,tPU64:=206,tNoCopy:=105,tANoCopy:=106,tAlign64:=107}
theorem Nr:Go.Conc.Lib.WgLib prog link:=
 ⟨func48,func50,func53,func78,func79,func80,func81,func82,func83,func84,func85,func86,func87,func88,func89,func90,func94,func95,func96,func97,func98,func114,func115,func116,func117,func120,underlying163,Tryz.runUnderlying163,Tryz.sizeOf163,Tryz.isAgg163,Tryz.zeroValue163,underlying148,Tryz.runUnderlying148,Tryz.sizeOf148,Tryz.isAgg148,Tryz.zeroValue148,underlying165,Tryz.runUnderlying165,Tryz.sizeOf165,Tryz.isAgg165,Tryz.zeroValue165,underlying112,Tryz.runUnderlying112,Tryz.sizeOf112,Tryz.isAgg112,Tryz.zeroValue112,underlying109,Tryz.runUnderlying109,Tryz.sizeOf109,Tryz.isAgg109,Tryz.zeroValue109,underlying64,Tryz.runUnderlying64,Tryz.sizeOf64,Tryz.isAgg64,Tryz.zeroValue64,underlying161,Tryz.runUnderlying161,Tryz.sizeOf161,Tryz.isAgg161,Tryz.zeroValue161,underlying110,Tryz.runUnderlying110,Tryz.sizeOf110,Tryz.isAgg110,Tryz.zeroValue110,underlying169,Tryz.runUnderlying169,Tryz.sizeOf169,Tryz.isAgg169,Tryz.zeroValue169,underlying204,Tryz.runUnderlying204,Tryz.sizeOf204,Tryz.isAgg204,Tryz.zeroValue204,underlying206,Tryz.runUnderlying206,Tryz.sizeOf206,Tryz.isAgg206,Tryz.zeroValue206,underlying0,Tryz.runUnderlying0,Tryz.sizeOf0,Tryz.isAgg0,Tryz.zeroValue0,underlying3,Tryz.runUnderlying3,Tryz.sizeOf3,Tryz.isAgg3,Tryz.zeroValue3,underlying4,Tryz.runUnderlying4,Tryz.sizeOf4,Tryz.isAgg4,Tryz.zeroValue4,underlying9,Tryz.runUnderlying9,Tryz.sizeOf9,Tryz.isAgg9,Tryz.zeroValue9,underlying20,Tryz.runUnderlying20,Tryz.sizeOf20,Tryz.isAgg20,Tryz.zeroValue20,underlying21,Tryz.runUnderlying21,Tryz.sizeOf21,Tryz.isAgg21,Tryz.zeroValue21,aj,aj⟩
end Go.Proofs.Y
namespace Go.Proofs.Y
open Go.Proofs.Tryz
open Go.Conc Go.ConcN Go.RowKit Go.Gh Go.Conc.Lib Go.ConcR.Gen Go.ConcN.Gen
open Go.ConcR (Payload)
theorem BK{P:aN}{main:Bool}{R:ah->ah->Prop}{D:ah->ah->aH->Prop}{fn:aU}{ops:Array Oper}{Q:Exit->Act->ah->Prop}{S:ah->Prop}{nf lst i k:Nat}{l:Array Bool}{a:Act}{w:ah}{o:Oper}
  (hr:Region.ready .any ops l=[i]) (ho:ops[i]?=some o) (hw:Region.wanted o (yielded ops a.tmps)=true)
  (h:∀w₁,R w w₁->∀K:Act->ah->Prop,(∀a' w',(D w₁ w' (listed P fn a o w₁)/\(i≠lst->S w')/\IP P main R D fn ops nf Q S lst k (l.setIfInBounds i true) a' w')->K a' w')->uponK o a K ((execOp a.eval o).run P w₁)):IP P main R D fn ops nf Q S lst (k+1) l a w:=
 GL hr ⟨o,ho,.inl ⟨hw,λw₁ r=>h w₁ r _ λ_ _ x=>x⟩⟩
section
variable [Payload][rq]{main:Bool}{Wg C n B:Nat}{Cl:Nat->Prop}
omit [Payload]in
theorem Bs.z_{w:ah}(h:Bs C B w){b:Nat}(hb:TD Wg C B w b):b<w.heap.size:=hb.elim (h.lt ·) λx=>bG x.1 h.hB
omit [rq]in
theorem UR{w:ah}(hp:PayAt C n w){i:Nat}(hi:i<n)(v:ai):Has C i v (w.setCell ⟨C,i,none⟩ v):=by obtain⟨arr,h1,h2⟩:=hp;simp[Has,World.cell?,heap_set w h1,h2,hi]
theorem Zt{w:ah}(hp:PayAt C n w)(hC:C<w.heap.size){i:Nat}(hi:Cl i)(v:ai){es:aH}(he:∀e∈es,∃wr,e=⟨.cell ⟨C,i,none⟩,wr,false⟩):Dg Wg C n B Cl w (w.setCell ⟨C,i,none⟩ v) es:=by
 obtain⟨arr,h1,h2⟩:=hp;refine⟨eY,rfl,rfl,λb _ _ hb=>dD _ _ _ _ hb,λj hj=>?_,λ_=>⟨_,heap_set w h1 i v,jI⟩,λe Ol=>?_⟩
 .simp only[World.cell?,heap_set w h1,h1];rw[jZ (λe:i=j=>hj (e▸hi))]
 .obtain⟨wr,rfl⟩:=he e Ol;exact⟨_,wr,rfl,by rw[t_];exact hC,.inr (.inr (.inl ⟨i,rfl,hi⟩))⟩
def W_(C L:Nat)(res:Nat->aA)(idx:Nat)(v:ai)(w:ah):Prop:=∃N,v=.slice (some ⟨N,0,none⟩) L L/\qZ w N/\N≠C/\w.heap[N]?=some (.cells (uh (res idx)) 5)
omit [rq]in
theorem W_.rely{w w₁:ah}{L idx:Nat}{res:Nat->aA}{v:ai}(h:W_ C L res idx v w)(r:Ro Wg C n B Cl w w₁):W_ C L res idx v w₁:=by obtain⟨N,h1,h2,h3,h4⟩:=h;exact⟨N,h1,(r.yL _).2 h2,h3,(r.mine _ h2).trans h4⟩
structure WD1(C L:Nat)(res:Nat->aA)(idx:Nat)(v:ai)(w:ah):Prop where
 wp:W_ C L res idx v w
 has:Has C idx v w
omit [rq]in
theorem WD1.rely{w w₁:ah}{L idx:Nat}{res:Nat->aA}{v:ai}(h:WD1 C L res idx v w)(r:Ro Wg C n B (· =idx) w w₁):WD1 C L res idx v w₁:=⟨h.wp.rely r,(r.cell idx rfl).trans h.has⟩
