/-
  Loops over a function, step by step, beside goroutines that only leave.
-/
import Derived.Test.YtkpcmfgeanlcnabGreatDoorLfM
import Derived.Calls
import Derived.Orders
namespace Go.Lf
open Go.Conc
section
variable {P:Program} {X:Nat→Prop} {Y:Nat→Option Obj} {D:Nat→World→Array Event→Prop} {Stop:Goroutine→World→Prop} {f:FuncId} {k:List Item} {cs:List Frame} {v w:World}
theorem Sim.put (h:Sim X Y w v) {r:Nat} {o:Obj} (hx:¬ X r) (hy:Y r=none) (ho:NoView o):Sim X Y (w.putObj r o) (v.putObj r o):=by
  refine ⟨by simp [h.size],fun b hb=>by simpa using h.bound b hb,fun b hb hyb => ?_,fun b o2 hyb => ?_,fun b hb => ?_,fun b o2 hb => ?_,h.os,h.out,h.str,fun b cs t fr hb hc => ?_⟩
  · by_cases e:b=r
    · subst e
      by_cases hl:b < v.heap.size
      · rw [World.putObj_heap_same (by rw [h.size];exact hl),World.putObj_heap_same hl]
      · rw [Array.getElem?_eq_none (by simp [h.size];omega),Array.getElem?_eq_none (by simp;omega)]
    · rw [World.putObj_heap_other e,World.putObj_heap_other e]
      exact h.same b hb hyb
  · have e:b≠r:=fun e=>by rw [e,hy] at hyb;cases hyb
    rw [World.putObj_heap_other e,World.putObj_heap_other e]
    exact h.gho b o2 hyb
  · have e:b≠r:=fun e=>hx (e ▸ hb)
    rw [World.putObj_heap_other e,World.putObj_heap_other e]
    exact h.doc b hb
  · by_cases e:b=r
    · subst e
      have hl:b < v.heap.size:=by
        have:=(Array.getElem?_eq_some_iff.1 hb).1
        simpa using this
      rw [World.putObj_heap_same hl] at hb
      cases hb
      exact ho
    · rw [World.putObj_heap_other e] at hb
      exact h.nv b o2 hb
  · have e:b≠r:=fun e=>hx (e ▸ hb)
    rw [World.putObj_heap_other e] at hc
    exact h.unf b cs t fr hb hc
theorem SimT.put (h:SimT X Y w v) {r:Nat} {o:Obj} (hx:¬ X r) (hy:Y r=none) (ho:NoView o):SimT X Y (w.putObj r o) (v.putObj r o):=by
  obtain ⟨τ,d,h⟩:=h
  exact ⟨τ,d,h.put hx hy ho⟩
theorem SimT.alloc (h:SimT X Y w v) {o:Obj} (ho:NoView o):SimT X Y (w.alloc o) (v.alloc o):=by
  obtain ⟨τ,d,h⟩:=h
  exact ⟨τ,d,h.push ho⟩
theorem SimT.size (h:SimT X Y w v):w.heap.size=v.heap.size:=by
  obtain ⟨τ,d,h⟩:=h
  exact h.size
theorem SimT.far (h:SimT X Y w v) {r:Nat} (hr:v.heap.size≤r):¬ X r∧Y r=none:=by
  obtain ⟨τ,d,h⟩:=h
  refine ⟨fun hx => ?_,?_⟩
  · have:=h.bound r (.inl hx)
    have:r < v.heap.size:=this
    omega
  · cases hy:Y r with
    | none=>rfl
    | some o=>
      have:=h.bound r (.inr (by rw [hy];rfl))
      have:r < v.heap.size:=this
      omega
theorem SimT.obj (h:SimT X Y w v) {r:Nat} {o:Obj} (hx:¬ X r) (hy:Y r=none) (ho:v.heap[r]? = some o):w.heap[r]? = some o:=by
  obtain ⟨τ,d,h⟩:=h
  exact (h.same r hx hy).trans ho
def Ours (X:Nat→Prop) (Y:Nat→Option Obj) (r:Nat):Prop:=¬ X r∧Y r=none
theorem evs_obj (hx:¬ X f) (w:World) (hl:f < w.heap.size):EvP X w ⟨.obj f,false,false⟩∧EvP X w ⟨.obj f,true,false⟩:=⟨.inr (.inl ⟨_,_,_,rfl,hl,hx⟩),.inr (.inl ⟨_,_,_,rfl,hl,hx⟩)⟩
theorem evsP_one {w:World} {e:Event} (h:EvP X w e) (fn:FuncId):EvsP X w (seen P fn #[e]):=fun e' he'=>by
  have:=mem_seen he'
  simp at this
  subst this
  exact h
theorem evsP_two {w:World} {e1 e2:Event} (h1:EvP X w e1) (h2:EvP X w e2) (fn:FuncId):EvsP X w (seen P fn #[e1,e2]):=fun e' he'=>by
  have:=mem_seen he'
  simp at this
  rcases this with rfl | rfl
  · exact h1
  · exact h2
theorem runT_enterLoop (fn:FuncId) (T:Array Value) (ps:Array Tmp) (assign body:Code):(Instr.enterLoop fn T ps assign body none).runT P w #[] =
    (.ok (w.heap.size+1,[{ target:=.collected w.heap.size,args:=#[] }]) ((w.alloc (.deferred (some []))).alloc (.loop { state:=.ready,pending:=none,fn,tmps:=T,params:=ps,assign,body,defers:=w.heap.size })),#[]):=by
  rw [Sem.runT_eq,run_enterLoop_outer]
  rfl
theorem runT_yield {l:Nat} {r:Loop} {args:Array Value} (h:w.heap[l]? = some (.loop r)) (hs:args.size=r.params.size):(Instr.yield l args).runT P w #[] =
    (.ok (.round l r.fn ((r.params.zip args).foldl (fun tmps (t,a)=>tmps.setIfInBounds t a) r.tmps) r.assign r.body) w,#[⟨.obj l,false,false⟩]):=by
  simp only [Instr.yield,Instr.getLoop,getObj,bind,Sem.bind,Sem.runT,h,pure,hs,ne_eq,not_true_eq_false,if_false]
  rfl
theorem runT_endRound {l:Nat} {r:Loop} (h:w.heap[l]? = some (.loop r)):(Instr.endRound l none).runT P w #[]=(.ok (.bool true) (w.putObj l (.loop { r with state:=.ready,pending:=none })),#[⟨.obj l,false,false⟩,⟨.obj l,true,false⟩]):=by
  simp only [Instr.endRound,Instr.getLoop,getObj,setObj,bind,Sem.bind,Sem.runT,h,pure]
  rfl
theorem runT_endLoop {l:Nat} {r:Loop} (h:w.heap[l]? = some (.loop r)) (hb:(r.state == .busy)=false):(Instr.endLoop l).runT P w #[]=(.ok r.pending (w.putObj l (.loop { r with state:=.exhausted })),#[⟨.obj l,false,false⟩,⟨.obj l,true,false⟩]):=by
  simp only [Instr.endLoop,Instr.getLoop,getObj,setObj,bind,Sem.bind,Sem.runT,h,pure,hb,Bool.false_eq_true,if_false]
  rfl
theorem runT_takeDeferred {b:Nat} {ds:List Deferred} (h:w.heap[b]? = some (.deferred (some ds))):(Instr.takeDeferred b).runT P w #[]=(.ok ds (w.putObj b (.deferred none)),#[⟨.obj b,false,false⟩,⟨.obj b,true,false⟩]):=by
  simp only [Instr.takeDeferred,getObj,setObj,bind,Sem.bind,Sem.runT,h,pure]
  rfl
theorem runT_call {gf:FuncId} {fn:Func} {c:Code} (hf:P.funcs[gf]? = some fn) (hname:(fn.name == "runtime.NumGoroutine")=false) (hb:fn.body=some c) (as:Array Value) (u:World):(callFunc gf as).runT P u #[]=(.ok (.enter gf as) u,#[]):=by
  have hne:fn.body.isNone=false:=by rw [hb];rfl
  show ((fun p:Program=>match p.funcs[gf]? with
    | none=>stuck "call: no such function"
    | some fn=>if fn.name == "runtime.NumGoroutine" then pure .numGoroutine
      else if fn.body.isNone then (do
        mark (.extern gf)
        if let some e:=Extern.findNext fn then return ← e as
        match Extern.find fn with
        | some e=>pure (.value (← e as))
        | none=>
          if fn.name.endsWith ".init" && !fn.name.startsWith "(" && !fn.name.startsWith "gosem." then pure (.value (.tuple #[]))
          else unsupported (.extern fn.name))
      else pure (.enter gf as):Program→Sem Next) P).runT P u #[]=_
  dsimp only
  rw [hf]
  dsimp only
  rw [hname,hne]
  rfl
theorem reaR_range (hD:Dok X D) {g:Operand} {ps:Array Tmp} {assign body:Code} {T:Array Value} {gf:FuncId} {lb:Array Value} {fn:Func} {c:Code} (hg:∀ fr:Frame,fr.tmps=T→fr.eval g = .func (.func gf) #[] lb) (hf:P.funcs[gf]? = some fn) (hname:(fn.name == "runtime.NumGoroutine")=false) (hb:fn.body=some c)
    (h:Ours X Y v.heap.size→Ours X Y (v.heap.size+1)→ReaR P X Y D Stop none [] gf (Dn none [{ target:=.collected v.heap.size,args:=#[] }] f T (.inRangeFunc (v.heap.size+1) :: k) :: cs) [.code c] (#[.func (.yield (v.heap.size+1)) #[] #[]]++lb++Array.replicate (fn.ntmps - (1+lb.size)) undef)
      ((v.alloc (.deferred (some []))).alloc (.loop { state:=.ready,pending:=none,fn:=f,tmps:=T,params:=ps,assign,body,defers:=v.heap.size }))) :
    ReaR P X Y D Stop none [] f cs (.code (.rangeFunc g ps assign body) :: k) T v:=by
  intro w hs
  have h1:=hs.far (Nat.le_refl _)
  have h2:=hs.far (r:=v.heap.size+1) (by omega)
  have hsz:=hs.size
  refine .next rfl fun d => ?_
  have hs':=((hs.at d).alloc (o:=.deferred (some [])) trivial).alloc (o:=.loop { state:=.ready,pending:=none,fn:=f,tmps:=T,params:=ps,assign,body,defers:=v.heap.size }) trivial
  refine ⟨_,_,#[],?_,hD.nil (by simp [World.at];omega),h h1 h2 _ hs'⟩
  have e1:(w.at d).heap.size=v.heap.size:=hsz
  have key:∀ fr:Frame,fr.tmps=T→∀ u l,(do let d ← resolve fr.eval (rangeCall g l) 0;invoke d.target d.args:Sem Next).runT P u #[]=(.ok (.enter gf (#[.func (.yield l) #[] #[]]++lb)) u,#[]):=fun fr hfr u l=>by
    show (Deferred.ofValue (fr.eval g) (Array.map fr.eval #[.const (.func (.yield l) #[] #[])]) >>= fun d=>invoke d.target d.args:Sem Next).runT P u #[]=_
    rw [hg fr hfr,show Array.map fr.eval #[.const (.func (.yield l) #[] #[])] = #[.func (.yield l) #[] #[]] by simp [Frame.eval]]
    show (callFunc gf (#[] ++ #[.func (.yield l) #[] #[]]++lb)).runT P u #[]=_
    rw [runT_call hf hname hb]
    simp
  simp only [G,Dn,stepG,stepG.exec,runT_enterLoop,stepG.apply,if_true]
  rw [key _ rfl]
  simp only [e1,GStep.after,Frame.enter,hf,hb,Option.map_some,Option.getD_some,Option.bind_some,Array.size_append]
  rfl
theorem reaR_yield (hD:Dok X D) {ops:Array Oper} {i:Nat} {rest:List Nat} {o:Oper} {T:Array Value} {l t:Nat} {r:Loop} {args:Array Operand} {ats:Array TypeId} {vs:Array Value} (ho:ops[i]? = some o) (hw:Region.wanted o (yielded ops T)=true)
    (hop:o.op = .call { callee:=.value (.tmp t),args,argTypes:=ats }) (ht:T.getD t undef = .func (.yield l) #[] #[]) (hvs:args.map (⟨T,[]⟩:Act).eval=vs) (hl:v.heap[l]? = some (.loop r)) (hO:Ours X Y l) (hps:vs.size=r.params.size)
    (h:ReaR P X Y D Stop (some l) [] r.fn (Dn none [] f T (.inRegion ops (i :: rest) :: k) :: cs) [.code r.assign,.beginRound,.code r.body] ((r.params.zip vs).foldl (fun tmps (t,a)=>tmps.setIfInBounds t a) r.tmps) v) :
    ReaR P X Y D Stop none [] f cs (.inRegion ops (i :: rest) :: k) T v:=by
  intro w hs
  refine .next rfl fun d => ?_
  have hl':(w.at d).heap[l]? = some (.loop r):=(hs.at d).obj hO.1 hO.2 hl
  have hlt:l < (w.at d).heap.size:=(Array.getElem?_eq_some_iff.1 hl').1
  refine ⟨_,_,seen P f #[⟨.obj l,false,false⟩],?_,hD.to (w:=w.at d) rfl (Nat.le_refl _) (evsP_one (evs_obj hO.1 _ hlt).1 _),h _ (hs.at d)⟩
  have e1:stepG P true (G (Dn none [] f T (.inRegion ops (i :: rest) :: k)) cs) (w.at d)=stepG.apply P true (Dn none [] f T (.inRegion ops (i :: rest) :: k)) cs none (execOp (Dn none [] f T (.inRegion ops (i :: rest) :: k)).eval o) (w.at d):=by
    simp only [G,Dn,stepG,stepG.exec,ho,Option.map_some,Option.getD_some]
    rw [if_pos hw]
    exact oper_plain (fun c h=>by rw [hop] at h;cases h) (by simp only [Frame.oper?,ho])
  have e2:(execOp (Dn none [] f T (.inRegion ops (i :: rest) :: k)).eval o).runT P (w.at d) #[]=(.ok (.round l r.fn ((r.params.zip vs).foldl (fun tmps (t,a)=>tmps.setIfInBounds t a) r.tmps) r.assign r.body) (w.at d),#[⟨.obj l,false,false⟩]):=by
    rw [← runT_yield (P:=P) (args:=vs) hl' hps]
    have hev:(Dn none [] f T (.inRegion ops (i :: rest) :: k)).eval=(⟨T,[]⟩:Act).eval:=by
      funext x
      cases x <;> rfl
    rw [hev]
    obtain ⟨dst,op,ty,pos,after,guard⟩:=o
    dsimp only at hop
    subst hop
    show (Deferred.ofValue (T.getD t undef) (args.map (⟨T,[]⟩:Act).eval) >>= fun d=>invoke d.target d.args:Sem Next).runT P (w.at d) #[]=_
    rw [ht,hvs]
    show (Instr.yield l (#[]++vs)).runT P (w.at d) #[]=_
    rw [Array.empty_append]
  rw [e1]
  simp only [stepG.apply,if_true,e2,GStep.after]
  rfl
theorem reaR_begin (hD:Dok X D) {T:Array Value} {ds:List Deferred} {l:Nat} {r:Loop} (hl:v.heap[l]? = some (.loop r)) (hr:r.state = .ready) (hO:Ours X Y l) (h:ReaR P X Y D Stop (some l) ds f cs k T (v.putObj l (.loop { r with state:=.busy }))) :
    ReaR P X Y D Stop (some l) ds f cs (.beginRound :: k) T v:=by
  intro w hs
  refine .next rfl fun d => ?_
  have hl':(w.at d).heap[l]? = some (.loop r):=(hs.at d).obj hO.1 hO.2 hl
  have hlt:l < (w.at d).heap.size:=(Array.getElem?_eq_some_iff.1 hl').1
  refine ⟨_,_,seen P f #[⟨.obj l,false,false⟩,⟨.obj l,true,false⟩],?_,hD.to (w:=w.at d) (by simp [World.putObj]) (Nat.le_refl _) (evsP_two (evs_obj hO.1 _ hlt).1 (evs_obj hO.1 _ hlt).2 _),h _ ((hs.at d).put hO.1 hO.2 trivial)⟩
  have e2:(do Option.elim (some l) (stuck "beginRound: no round") Instr.beginRound;pure .skip:Sem Next).runT P (w.at d) #[]=(.ok .skip ((w.at d).putObj l (.loop { r with state:=.busy })),#[⟨.obj l,false,false⟩,⟨.obj l,true,false⟩]):=by
    simp only [Option.elim,Instr.beginRound,Instr.getLoop,getObj,setObj,bind,Sem.bind,Sem.runT,hl',pure,hr]
    rfl
  simp only [G,Dn,stepG,stepG.exec,stepG.apply,if_true]
  rw [e2]
  rfl
theorem reaR_end (hD:Dok X D) {T:Array Value} {c:Frame} {l:Nat} {r:Loop} (hl:v.heap[l]? = some (.loop r)) (hO:Ours X Y l) (h:∀ w,SimT X Y w (v.putObj l (.loop { r with state:=.ready,pending:=none }))→GoesI P D Stop (G (c.finish (.bool true)) cs) w) :
    ReaR P X Y D Stop (some l) [] f (c :: cs) [] T v:=by
  intro w hs
  refine .next rfl fun d => ?_
  have hl':(w.at d).heap[l]? = some (.loop r):=(hs.at d).obj hO.1 hO.2 hl
  have hlt:l < (w.at d).heap.size:=(Array.getElem?_eq_some_iff.1 hl').1
  refine ⟨_,_,seen P f #[⟨.obj l,false,false⟩,⟨.obj l,true,false⟩],?_,hD.to (w:=w.at d) (by simp [World.putObj]) (Nat.le_refl _) (evsP_two (evs_obj hO.1 _ hlt).1 (evs_obj hO.1 _ hlt).2 _),h _ ((hs.at d).put hO.1 hO.2 trivial)⟩
  simp only [G,Dn,stepG,stepG.exec,runT_endRound hl',doReturn]
  rfl
theorem reaR_endRange (hD:Dok X D) {T:Array Value} {ds:List Deferred} {ro:Option Nat} {l:Nat} {r:Loop} (hl:v.heap[l]? = some (.loop r)) (hr:(r.state == .busy)=false) (hp:r.pending=none) (hO:Ours X Y l) (h:ReaR P X Y D Stop ro ds f cs k T (v.putObj l (.loop { r with state:=.exhausted }))) :
    ReaR P X Y D Stop ro ds f cs (.endRangeFunc l :: k) T v:=by
  intro w hs
  refine .next rfl fun d => ?_
  have hl':(w.at d).heap[l]? = some (.loop r):=(hs.at d).obj hO.1 hO.2 hl
  have hlt:l < (w.at d).heap.size:=(Array.getElem?_eq_some_iff.1 hl').1
  refine ⟨_,_,seen P f #[⟨.obj l,false,false⟩,⟨.obj l,true,false⟩],?_,hD.to (w:=w.at d) (by simp [World.putObj]) (Nat.le_refl _) (evsP_two (evs_obj hO.1 _ hlt).1 (evs_obj hO.1 _ hlt).2 _),h _ ((hs.at d).put hO.1 hO.2 trivial)⟩
  simp only [G,Dn,stepG,stepG.exec,runT_endLoop hl' hr,hp]
  rfl
theorem goesI_back (hD:Dok X D) {fn:Func} (hf:P.funcs[f]? = some fn) {T:Array Value} {c:Frame} {y:Value} (hres:∀ τ d,(results fn T).run P { v with tape:=τ,drawn:=d } = .ok y { v with tape:=τ,drawn:=d })
    (h:∀ w,SimT X Y w v→GoesI P D Stop (G (c.finish y) cs) w) (w:World) (hs:SimT X Y w v):GoesI P D Stop (G { Dn none [] f T k with mode:=.returning } (c :: cs)) w:=by
  refine .next rfl fun d' => ?_
  have hs':Sim X Y (w.at d') { v with tape:=fun p=>w.tape (d' + p),drawn:=0 }:=hs.re d' 0 _ fun i q=>by simp
  have hr:=hres (fun p=>w.tape (d' + p)) 0
  obtain ⟨w',h1,h2,h3,h4⟩:=sim_run (results fn T) (w.at d') _ #[] y _ ((results fn T).events P { v with tape:=fun p=>w.tape (d' + p),drawn:=0 } #[]) (plain_results fn T) hs' (by rw [Sem.runT_eq,hr])
  refine ⟨G (c.finish y) cs,w',seen P f ((results fn T).events P { v with tape:=fun p=>w.tape (d' + p),drawn:=0 } #[]),?_,hD _ w' _ (Nat.le_of_eq (hs'.size.trans h2.size.symm)) (fun e he=>(h4 e (mem_seen he)).resolve_left (by simp)),h w' ⟨_,_,h2⟩⟩
  have eA:∀ c2 r2 u,stepG P true (G { Dn none [] f T k with mode:=.returning } (c2 :: r2)) u =
      GStep.after (seen P f ((results fn T).runT P u #[]).2) (match ((results fn T).runT P u #[]).1 with
        | .ok v w=>doReturn P true { Dn none [] f T k with mode:=.returning } (c2 :: r2) none v w
        | .halt (.stuck s) w=>.ended (.stuck s (Frame.pos P { Dn none [] f T k with mode:=.returning })) w
        | .halt _ w=>.ended (.stuck "return: the result variables cannot be read" (Frame.pos P { Dn none [] f T k with mode:=.returning })) w):=fun c2 r2 u=>by
    simp only [G,stepG,unwind,Dn,hf]
    rfl
  show stepG P true _ (w.at d')=_
  rw [eA,h1]
  simp only [doReturn,GStep.after]
  rfl
theorem reaR_fall (hD:Dok X D) {fn:Func} (hf:P.funcs[f]? = some fn) {T:Array Value} {c:Frame} {y:Value} (hres:∀ τ d,(results fn T).run P { v with tape:=τ,drawn:=d } = .ok y { v with tape:=τ,drawn:=d })
    (h:∀ w,SimT X Y w v→GoesI P D Stop (G (c.finish y) cs) w):ReaR P X Y D Stop none [] f (c :: cs) [] T v:=by
  intro w hs
  exact .next rfl fun d=>⟨G { Dn none [] f T [] with mode:=.returning } (c :: cs),w.at d,#[],rfl,hD.nil (Nat.le_refl _),goesI_back hD hf hres h _ (hs.at d)⟩
theorem reaR_ret (hD:Dok X D) {fn:Func} (hf:P.funcs[f]? = some fn) {T:Array Value} {c:Frame} {b:Nat} {y:Value} (hb:v.heap[b]? = some (.deferred (some []))) (hO:Ours X Y b) (hres:∀ τ d,(results fn T).run P { v.putObj b (.deferred none) with tape:=τ,drawn:=d } = .ok y { v.putObj b (.deferred none) with tape:=τ,drawn:=d })
    (h:∀ w,SimT X Y w (v.putObj b (.deferred none))→GoesI P D Stop (G (c.finish y) cs) w):ReaR P X Y D Stop none [{ target:=.collected b,args:=#[] }] f (c :: cs) [.code .ret] T v:=by
  intro w hs
  refine .next rfl fun d=>⟨G { Dn none [{ target:=.collected b,args:=#[] }] f T [.code .ret] with mode:=.returning } (c :: cs),w.at d,#[],rfl,hD.nil (Nat.le_refl _),?_⟩
  refine .next rfl fun d' => ?_
  have hb':(w.at d').heap[b]? = some (.deferred (some [])):=(hs.at d').obj hO.1 hO.2 hb
  have hlt:b < (w.at d').heap.size:=(Array.getElem?_eq_some_iff.1 hb').1
  refine ⟨G { Dn none [] f T [.code .ret] with mode:=.returning } (c :: cs),(w.at d').putObj b (.deferred none),seen P f #[⟨.obj b,false,false⟩,⟨.obj b,true,false⟩],?_,hD.to (w:=w.at d') (by simp [World.putObj]) (Nat.le_refl _) (evsP_two (evs_obj hO.1 _ hlt).1 (evs_obj hO.1 _ hlt).2 _),goesI_back hD hf hres h _ ((hs.at d').put hO.1 hO.2 trivial)⟩
  show stepG P true _ (w.at d')=_
  simp only [G,Dn,stepG,unwind,runT_takeDeferred hb']
  rfl
end
section
variable {P:Program} {F:FuncId→Bool} {X:Nat→Prop} {Y:Nat→Option Obj} {Φ:Goroutine→World→Prop} {f:FuncId} {k:List Item} {cs:List Frame} {a:Act} {v:World} {ops:Array Oper} {i:Nat} {rest:List Nat} {o:Oper}
theorem dead_end2:∀ (n:Nat) (f:Frame) (r:List Frame) (ch:List PanicEntry) (v:World) (f':Frame) (r':List Frame) (v':World),(∀ c∈r,TFr P F c∧c.mode = .run)→f.mode = .panicking ch→((∃ fn,P.funcs[f.fn]? = some fn)∧f.defers=[])→(∀ ch,f'.mode ≠ .panicking ch) →
    ¬ ownN P n f (r++[f0]) v f' r' v'
  | 0,f,r,ch,v,f',r',v',_,hm,_,hm',h=>by
    obtain ⟨rfl,_⟩:=own_zero h
    exact hm' _ hm
  | n+1,f,r,ch,v,f',r',v',hr,hm,⟨⟨fn,hfn⟩,hd⟩,hm',h=>by
    have hcat:f.catches P=false:=by unfold Frame.catches;rw [hfn]
    cases r with
    | nil=>
      have e:stepG P true (G f ([]++[f0])) v = .go (G (f0.raise ch) []) v #[]:=by
        simp only [List.nil_append,G,stepG,hm,unwind,hd,hcat,Bool.false_eq_true,if_false]
      have h2:=own_go e h
      cases n with
      | zero=>
        obtain ⟨h3,_⟩:=own_zero h2
        exact hm' ch (by rw [← h3];rfl)
      | succ n=>
        obtain ⟨o,v1,es,he⟩:=f0_dead (P:=P) ch v
        exact own_end (show stepG P true (G (f0.raise ch) []) v=_ from he) h2
    | cons c r=>
      have e:stepG P true (G f (c :: r++[f0])) v = .go (G (c.raise ch) (r++[f0])) v #[]:=by
        simp only [List.cons_append,G,stepG,hm,unwind,hd,hcat,Bool.false_eq_true,if_false]
      have h2:=own_go e h
      obtain ⟨hc,hcm⟩:=hr c (by simp)
      have er:c.raise ch = { c with mode:=.panicking ch }:=by simp [Frame.raise,hcm]
      rw [er] at h2
      exact dead_end2 n { c with mode:=.panicking ch } r ch v f' r' v' (fun x hx=>hr x (by simp [hx])) rfl ⟨hc.fn,hc.defers⟩ hm' h2
theorem tfr_enter {g:FuncId} (hg:GoodBody P F g) {as:Array Value} (ha:as.size≤arity P g):TFr P F (Frame.enter P g as .normal):=by
  obtain ⟨fn1,c1,S1,g1,g2,g3,g4,g5⟩:=hg
  refine ⟨⟨fn1,g1⟩,rfl,rfl,rfl,S1,fun x hx => ?_,InvS.enter ha g5⟩
  simp only [Frame.enter,g1,Option.bind_some,g3,Option.getD_some,List.mem_singleton] at hx
  subst hx
  exact g4
theorem order_any (hm:P.follows .mixedOrders=true) (t:Nat):Region.schedule (P.follows .mixedOrders) ops t=Region.linearise.go .any ops ops.size t (Array.replicate ops.size false) []:=by
  simp only [Region.schedule,hm,Bool.true_or,if_true,Region.linearise]
theorem go_succ (fuel t:Nat) (l:Array Bool) (hne:Region.ready .any ops l≠[]):∃ i t',i∈Region.ready .any ops l∧Region.linearise.go .any ops (fuel+1) t l []=i :: Region.linearise.go .any ops fuel t' (l.setIfInBounds i true) []:=by
  simp only [Region.linearise.go]
  change ∃ i t',i∈Region.ready .any ops l∧(match (Region.ready .any ops l)[t % (Region.ready .any ops l).length]? with
      | some i=>Region.linearise.go .any ops fuel (t / (Region.ready .any ops l).length) (l.setIfInBounds i true) [i]
      | none=>[].reverse)=_
  cases hi:(Region.ready .any ops l)[t % (Region.ready .any ops l).length]? with
  | none=>
    refine absurd ?_ hne
    cases hr:Region.ready .any ops l with
    | nil=>rfl
    | cons x xs=>
      rw [hr,List.getElem?_eq_none_iff] at hi
      have:=Nat.mod_lt t (show 0 < (x :: xs).length by simp)
      omega
  | some i=>
    refine ⟨i,t / (Region.ready .any ops l).length,List.mem_of_getElem? hi,?_⟩
    simp only []
    rw [linearise_go_acc,List.reverse_singleton,List.singleton_append]
variable {D:Nat→World→Array Event→Prop} {Stop:Goroutine→World→Prop} {ro:Option Nat} {ds:List Deferred} {T:Array Value}
theorem reaR_step (hD:Dok X D) {k k':List Item} (h:∀ w,stepG P true (G (Dn ro ds f T k) cs) w = .go (G (Dn ro ds f T k') cs) w #[]) (hr:ReaR P X Y D Stop ro ds f cs k' T v):ReaR P X Y D Stop ro ds f cs k T v:=
  fun w hs=>.next rfl fun d=>⟨_,_,_,h (w.at d),hD.nil (Nat.le_refl _),hr _ (hs.at d)⟩
theorem reaR_split (hD:Dok X D) {c d:Code} (hr:ReaR P X Y D Stop ro ds f cs (.code c :: .code d :: k) T v):ReaR P X Y D Stop ro ds f cs (.code (.seq c d) :: k) T v:=reaR_step hD (fun _=>rfl) hr
theorem reaR_skip (hD:Dok X D) (hr:ReaR P X Y D Stop ro ds f cs k T v):ReaR P X Y D Stop ro ds f cs (.code .skip :: k) T v:=reaR_step hD (fun _=>rfl) hr
theorem reaR_block (hD:Dok X D) {id:Nat} {c:Code} (hr:ReaR P X Y D Stop ro ds f cs (.code c :: .inBlock id :: k) T v):ReaR P X Y D Stop ro ds f cs (.code (.block id c) :: k) T v:=reaR_step hD (fun _=>rfl) hr
theorem reaR_inBlock (hD:Dok X D) {id:Nat} (hr:ReaR P X Y D Stop ro ds f cs k T v):ReaR P X Y D Stop ro ds f cs (.inBlock id :: k) T v:=reaR_step hD (fun _=>rfl) hr
theorem reaR_loop (hD:Dok X D) {c:Code} (hr:ReaR P X Y D Stop ro ds f cs (.code c :: .inLoop c :: k) T v):ReaR P X Y D Stop ro ds f cs (.code (.loop c) :: k) T v:=reaR_step hD (fun _=>rfl) hr
theorem reaR_inLoop (hD:Dok X D) {c:Code} (hr:ReaR P X Y D Stop ro ds f cs (.code c :: .inLoop c :: k) T v):ReaR P X Y D Stop ro ds f cs (.inLoop c :: k) T v:=reaR_step hD (fun _=>rfl) hr
theorem reaR_exit (hD:Dok X D) {id:Nat} {k':List Item} (he:exitTo id k=some k') (hr:ReaR P X Y D Stop ro ds f cs k' T v):ReaR P X Y D Stop ro ds f cs (.code (.exit id) :: k) T v:=reaR_step hD (fun _=>by simp only [G,Dn,stepG,stepG.exec,he,Option.elim]) hr
theorem reaR_cond (hD:Dok X D) {t:Nat} {b:Bool} {c d:Code} (he:T.getD t undef = .bool b) (hr:ReaR P X Y D Stop ro ds f cs (.code (if b then c else d) :: k) T v):ReaR P X Y D Stop ro ds f cs (.code (.cond (.tmp t) c d) :: k) T v:=reaR_step hD (fun _=>by simp only [G,Dn,stepG,stepG.exec,Frame.eval,he]) hr
theorem reaR_region (hD:Dok X D) {id:Nat} (hr:ReaR P X Y D Stop ro ds f cs (.inRegion ops (List.range ops.size) :: k) T v):ReaR P X Y D Stop ro ds f cs (.code (.region id ops false) :: k) T v:=reaR_step hD (fun _=>rfl) hr
theorem reaR_endReg (hD:Dok X D) (hr:ReaR P X Y D Stop ro ds f cs k T v):ReaR P X Y D Stop ro ds f cs (.inRegion ops [] :: k) T v:=reaR_step hD (fun _=>rfl) hr
theorem reaR_go (hF:GoodF P F) (hD:Dok X D) {c:Code} (hc:okCode P F c=true) (hf:∃ fn,P.funcs[f]? = some fn)
    (h:∀ R:Act→World→Prop,(∀ T' v',ReaR P X Y D Stop ro ds f cs k T' v' → R ⟨T',[]⟩ v')→∀ τ d,c.wp P (fun e a' v'=>e = .normal∧a'.defers=[]∧R a' v') ⟨T,[]⟩ { v with tape:=τ,drawn:=d }):ReaR P X Y D Stop ro ds f cs (.code c :: k) T v:=
  reaR_code hF hD hc hf fun τ d=>h (fun a' v'=>ReaR P X Y D Stop ro ds f cs k a'.tmps v') (fun _ _ x=>x) τ d
theorem reaR_call (hD:Dok X D) {g:FuncId} {fn:Func} {c:Code} {args:Array Operand} {ats:Array TypeId} {vs:Array Value} {n:Nat} (ho:ops[i]? = some o) (hw:Region.wanted o (yielded ops T)=true) (hop:o.op = .call { callee:=.value (.func g),args,argTypes:=ats })
    (hf:P.funcs[g]? = some fn) (hname:(fn.name == "runtime.NumGoroutine")=false) (hb:fn.body=some c) (hvs:args.map (⟨T,[]⟩:Act).eval=vs) (hn:fn.ntmps - vs.size=n)
    (h:ReaR P X Y D Stop none [] g (Dn none [] f T (.inRegion ops (i :: rest) :: k) :: cs) [.code c] (vs++Array.replicate n undef) v):ReaR P X Y D Stop none [] f cs (.inRegion ops (i :: rest) :: k) T v:=by
  subst hvs hn
  intro w hs
  refine .next rfl fun d => ?_
  obtain ⟨g1,w1,es,hgo,rfl,rfl,rfl⟩:=goes_elim (goes_call (P:=P) (main:=true) (b:=base f) (a:=⟨T,[]⟩) (k:=k) (cs:=cs) (w:=w.at d) (rest:=rest) (K:=fun g1 w1 es=>g1=G ((base g).at { tmps:=args.map (⟨T,[]⟩:Act).eval++Array.replicate (fn.ntmps - (args.map (⟨T,[]⟩:Act).eval).size) undef,defers:=[] } [.code c]) ((base f).at ⟨T,[]⟩ (.inRegion ops (i :: rest) :: k) :: cs)∧w1=w.at d∧es = #[]) ho hw (by intro h;cases h) hop hf hname hb ⟨rfl,rfl,rfl⟩)
  exact ⟨_,_,_,hgo,hD.nil (Nat.le_refl _),h _ (hs.at d)⟩
theorem reaR_op (hF:GoodF P F) (hD:Dok X D) (u:Value) (ho:ops[i]? = some o) (hw:Region.wanted o (yielded ops T)=true) (hok:okOp P F o=true) (hrun:∀ z:World,z.heap=v.heap→(execOp (⟨T,[]⟩:Act).eval o).run P z = .ok (.value u) z)
    (h:ReaR P X Y D Stop none [] f cs (.inRegion ops rest :: k) ((⟨T,[]⟩:Act).put o.dst u).tmps v):ReaR P X Y D Stop none [] f cs (.inRegion ops (i :: rest) :: k) T v:=by
  have hd:((⟨T,[]⟩:Act).put o.dst u)=⟨((⟨T,[]⟩:Act).put o.dst u).tmps,[]⟩:=by cases o.dst <;> rfl
  refine reaI_op (a:=⟨T,[]⟩) hF hD ho hw hok fun τ d=>⟨_,hrun _ rfl,?_⟩
  rw [hd]
  exact fun w ⟨τ0,d0,hs⟩=>h w ⟨τ0,d0,hs⟩
theorem reaR_store (hF:GoodF P F) (hD:Dok X D) {a:Addr} {u:Value} (ho:ops[i]? = some o) (hw:Region.wanted o (yielded ops T)=true) (hok:okOp P F o=true) (hdst:o.dst=none) (hrun:∀ z:World,z.heap=v.heap→(execOp (⟨T,[]⟩:Act).eval o).run P z = .ok .skip (z.setCell a u))
    (h:ReaR P X Y D Stop none [] f cs (.inRegion ops rest :: k) T (v.setCell a u)):ReaR P X Y D Stop none [] f cs (.inRegion ops (i :: rest) :: k) T v:=by
  intro w hs
  refine .next rfl fun d => ?_
  have h0:=hrun { v with tape:=fun p=>w.tape (d+p),drawn:=0 } rfl
  obtain ⟨w',h1,h2,h3,h4⟩:=op_run hF hok h0 (hs.re d 0 (fun p=>w.tape (d+p)) fun i q=>by simp) f
  refine ⟨G (Dn none [] f T (.inRegion ops rest :: k)) cs,w',listed P f ⟨T,[]⟩ o (w.at d),?_,hD _ _ _ h3 h4,h w' ⟨_,_,h2⟩⟩
  have hfin:((base f).at ⟨T,[]⟩ (.inRegion ops (i :: rest) :: k)).finish undef=Dn none [] f T (.inRegion ops rest :: k):=by
    rw [Frame.finish_at,ho]
    simp only [Option.bind_some,hdst]
    rfl
  show stepG P true (G ((base f).at ⟨T,[]⟩ (.inRegion ops (i :: rest) :: k)) cs) (w.at d)=_
  rw [stepG_oper ho hw,← hfin]
  simp [stepG.apply,h1,G,Frame.at,base,GStep.after,listed]
theorem Dn_finish_range (l:Nat) (y:Value):(Dn ro ds f T (.inRangeFunc l :: k)).finish y=Dn ro ds f T (.endRangeFunc l :: k):=rfl
theorem Dn_finish (ho:ops[i]? = some o) (y:Value):(Dn ro ds f T (.inRegion ops (i :: rest) :: k)).finish y=Dn ro ds f ((⟨T,[]⟩:Act).put o.dst y).tmps (.inRegion ops rest :: k):=by
  simp only [Frame.finish,Dn,ho,Option.bind_some,Act.put]
  cases o.dst <;> rfl
end
end Go.Lf
