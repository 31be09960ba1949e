/-
  Single steps of such walks: an operation, a call, a return.
-/
import Derived.Test.YtkpcmfgeanlcnabGreatDoorLfJ
import Derived.Conc.Own4
import Derived.Conc.Walk
import Derived.RangeFuncRecord
namespace Go.Lf
open Go.Conc
section
variable {P:Program} {F:FuncId→Bool} {X:Nat→Prop} {Y:Nat→Option Obj} {D:Nat→World→Array Event→Prop} {Stop:Goroutine→World→Prop} {Φ:Goroutine→World→Prop} {f:FuncId} {k:List Item} {cs:List Frame} {a:Act} {v v':World} {ops:Array Oper} {i:Nat} {rest:List Nat} {o:Oper} {u:Value}
theorem eval_func (a:Act) (g:FuncId):a.eval (.func g) = .func (.func g) #[] #[]:=rfl
theorem op_run (hF:GoodF P F) (hok:okOp P F o=true) {x:Next} (hrun:(execOp a.eval o).run P v = .ok x v') {w:World} (hs:Sim X Y w v) (fn:FuncId) :
    ∃ w',(execOp a.eval o).run P w = .ok x w' ∧ Sim X Y w' v' ∧ w.heap.size≤w'.heap.size∧EvsP X w' (listed P fn a o w):=by
  obtain ⟨hpl,_⟩:=exec_ok hF (tmps:=a.tmps) (ρ:=a.eval) (eval_func a) (fun _=>rfl) InvS.nil hok
  obtain ⟨w',h1,h2,h3,h4⟩:=hpl.sim w v #[] x v' ((execOp a.eval o).events P v #[]) hs (by rw [Sem.runT_eq,hrun])
  rw [Sem.runT_eq,Prod.mk.injEq] at h1
  refine ⟨w',h1.1,h2,by rw [hs.size,h2.size];exact h3,fun e he => ?_⟩
  unfold listed at he
  rw [h1.2] at he
  exact (h4 e (mem_seen he)).resolve_left (by simp)
theorem reaI_region {id:Nat} (hD:Dok X D) (hr:ReaI P X Y D Stop f cs (.inRegion ops (List.range ops.size) :: k) a v):ReaI P X Y D Stop f cs (.code (.region id ops false) :: k) a v:=reachI_step hD (fun _=>stepG_region) hr
theorem reaI_end (hD:Dok X D) (hr:ReaI P X Y D Stop f cs k a v):ReaI P X Y D Stop f cs (.inRegion ops [] :: k) a v:=reachI_step hD (fun _=>stepG_region_end) hr
theorem reaI_op (hF:GoodF P F) (hD:Dok X D) (ho:ops[i]? = some o) (hw:Region.wanted o (yielded ops a.tmps)=true) (hok:okOp P F o=true) (hrun:∀ τ d,∃ v',(execOp a.eval o).run P { v with tape:=τ,drawn:=d } = .ok (.value u) v' ∧ ReaI P X Y D Stop f cs (.inRegion ops rest :: k) (a.put o.dst u) v'):ReaI P X Y D Stop f cs (.inRegion ops (i :: rest) :: k) a v:=by
  intro w hs
  refine .next rfl fun d => ?_
  obtain ⟨v',h0,h⟩:=hrun (fun p=>w.tape (d+p)) 0
  obtain ⟨w',h1,h2,h3,h4⟩:=op_run hF hok h0 (hs.re d 0 (fun p=>w.tape (d+p)) fun i q=>by simp) f
  exact ⟨_,_,_,stepG_value (b:=base f) ho hw (by intro h;cases h) h1,hD _ _ _ h3 h4,h w' h2.t⟩
theorem reaI_ret (hD:Dok X D) (ha:a.defers=[]) {fn:Func} (hf:P.funcs[f]? = some fn) {c:Frame} {y:Value} (hres:∀ τ d,(results fn a.tmps).run P { v with tape:=τ,drawn:=d } = .ok y { v with tape:=τ,drawn:=d })
    (h:∀ w,SimT X Y w v→GoesI P D Stop (G (c.finish y) cs) w):ReaI P X Y D Stop f (c :: cs) [.code .ret] a v:=by
  obtain ⟨tmps,d0⟩:=a
  subst ha
  intro w hs
  refine .next rfl fun d=>⟨G { (base f).at ⟨tmps,[]⟩ [.code .ret] with mode:=.returning } (c :: cs),w.at d,#[],rfl,hD.nil (Nat.le_refl _),?_⟩
  refine .next rfl fun d' => ?_
  have hs':Sim X Y (w.at d') { v with tape:=fun p=>w.tape (d' + p),drawn:=0 }:=hs.re d' 0 _ fun i q=>by simp
  have hr:=hres (fun p=>w.tape (d' + p)) 0
  obtain ⟨w',h1,h2,h3,h4⟩:=sim_run (results fn tmps) (w.at d') _ #[] y _ ((results fn tmps).events P { v with tape:=fun p=>w.tape (d' + p),drawn:=0 } #[]) (plain_results fn tmps) hs' (by rw [Sem.runT_eq,hr])
  refine ⟨G (c.finish y) cs,w',seen P f ((results fn tmps).events P { v with tape:=fun p=>w.tape (d' + p),drawn:=0 } #[]),?_,hD _ w' _ (Nat.le_of_eq (hs'.size.trans h2.size.symm)) (fun e he=>(h4 e (mem_seen he)).resolve_left (by simp)),h w' ⟨_,_,h2⟩⟩
  have eA:∀ c2 r2 u,stepG P true (G { (base f).at ⟨tmps,[]⟩ [.code .ret] with mode:=.returning } (c2 :: r2)) u =
      GStep.after (seen P f ((results fn tmps).runT P u #[]).2) (match ((results fn tmps).runT P u #[]).1 with
        | .ok v w=>doReturn P true { (base f).at ⟨tmps,[]⟩ [.code .ret] with mode:=.returning } (c2 :: r2) none v w
        | .halt (.stuck s) w=>.ended (.stuck s (Frame.pos P { (base f).at ⟨tmps,[]⟩ [.code .ret] with mode:=.returning })) w
        | .halt _ w=>.ended (.stuck "return: the result variables cannot be read" (Frame.pos P { (base f).at ⟨tmps,[]⟩ [.code .ret] with mode:=.returning })) w):=fun c2 r2 u=>by
    simp only [G,stepG,unwind,base,Frame.at,hf]
    rfl
  show stepG P true _ (w.at d')=_
  rw [eA,h1]
  simp only [doReturn,GStep.after]
  rfl
end
structure Ext where
  k:List Item
  ro:Option Nat
  ds:List Deferred
def extD (E:Ext) (f:Frame):Frame:={ f with todo:=f.todo++E.k,roundOf:=E.ro,defers:=E.ds }
theorem extD_none {f:Frame} (h1:f.roundOf=none) (h2:f.defers=[]):extD ⟨[],none,[]⟩ f=f:=by
  obtain ⟨fn,tmps,todo,defers,mode,kind,round⟩:=f
  dsimp only at h1 h2
  subst h1 h2
  simp [extD]
def Ends (t:List Item):Prop:=t=[]∨∃ k,t = .code .ret :: k
section
variable {P:Program} {F:FuncId→Bool} {X:Nat→Prop} {Y:Nat→Option Obj} {D:Nat→World→Array Event→Prop} {Stop:Goroutine→World→Prop}
theorem evalD (E:Ext) (f:Frame):(extD E f).eval=f.eval:=by
  funext x
  cases x <;> rfl
theorem oper_plain {fr:Frame} {o:Oper} {cs:List Frame} {dy:Option Dying} {w:World} (h:∀ c,o.op ≠ .defer c) (ho:fr.oper? = some o):stepG.oper P true fr cs dy w=stepG.apply P true fr cs dy (execOp fr.eval o) w:=by
  unfold stepG.oper
  rw [ho]
  dsimp only
  split
  · rename_i hx;exact absurd hx (h _)
  · rfl
inductive WayD (P:Program) (F:FuncId→Bool) (f:Frame) (cs:List Frame) (w w':World) (es:Array Event) (g':Goroutine):Prop
  | here {f':Frame}:g' = G f' cs→TFr P F f' → (f'.mode = .run∨f'.mode = .returning)→(∀ E cs2,(Ends f.todo→E=⟨[],none,[]⟩)→stepG P true (G (extD E f) cs2) w = .go (G (extD E f') cs2) w' es)→WayD P F f cs w w' es g'
  | call {e:Frame}:g' = G e (f :: cs)→TFr P F e→e.mode = .run→(f.todo≠[]∧∀ u,TFr P F (f.finish u))→(∀ E cs2,stepG P true (G (extD E f) cs2) w = .go (G e (extD E f :: cs2)) w' es)→WayD P F f cs w w' es g'
def SteppedD (P:Program) (F:FuncId→Bool) (X:Nat→Prop) (Y:Nat→Option Obj) (f:Frame) (cs:List Frame) (w v:World):Prop:=
  (∃ o v' es,stepG P true (G f cs) v = .ended o v' es)∨(∃ ch v' es,stepG P true (G f cs) v = .go (G { f with mode:=.panicking ch } cs) v' es) ∨
  ∃ g' v' es w',stepG P true (G f cs) v = .go g' v' es∧Tp P (G f cs) v g' v' es∧Sim X Y w' v' ∧ w.heap.size≤w'.heap.size∧EvsP X w' es∧WayD P F f cs w w' es g'
theorem ctlD {f f':Frame} {cs:List Frame} {w v:World} (hs:Sim X Y w v) (h:∀ E cs2 u,(Ends f.todo→E=⟨[],none,[]⟩)→stepG P true (G (extD E f) cs2) u = .go (G (extD E f') cs2) u #[]) (hT:TFr P F f') (hm:f'.mode = .run∨f'.mode = .returning) (h1:f.roundOf=none:=by rfl) (h2:f.defers=[]:=by rfl):SteppedD P F X Y f cs w v:=by
  have key:∀ u,stepG P true (G f cs) u = .go (G f' cs) u #[]:=fun u=>by
    have:=h ⟨[],none,[]⟩ cs u (fun _=>rfl)
    rwa [extD_none h1 h2,extD_none hT.round hT.defers] at this
  exact .inr (.inr ⟨G f' cs,v,#[],w,key v,⟨rfl,Nat.le_refl _,fun τ _=>key _⟩,hs,Nat.le_refl _,fun e he=>by simp at he,.here rfl hT hm fun K cs2 hk=>h K cs2 w hk⟩)
set_option maxHeartbeats 1000000 in
theorem tstepD (hF:GoodF P F) {f:Frame} {cs:List Frame} {w v:World} (hT:TFr P F f) (hm:f.mode = .run) (hs:Sim X Y w v):SteppedD P F X Y f cs w v:=by
  obtain ⟨fn,tmps,todo,defers,mode,kind,round⟩:=f
  obtain ⟨⟨fun0,hfn⟩,hk,hd,hr,S,ht,hS⟩:=hT
  dsimp only at hfn hk hd hr ht hS hm
  subst hk hd hr hm
  have mk:∀ {todo':List Item} {mode':FrameMode},(∀ it∈todo',TItem P F S it)→TFr P F ⟨fn,tmps,todo',[],mode',.normal,none⟩:=fun h=>⟨⟨fun0,hfn⟩,rfl,rfl,rfl,S,h,hS⟩
  cases todo with
  | nil=>exact ctlD (f':=⟨fn,tmps,[],[],.returning,.normal,none⟩) hs (fun K cs2 u hK=>by rw [hK (.inl rfl)];rfl) (mk (by simp)) (.inr rfl)
  | cons it k=>
    have hit:=ht it (by simp)
    have hk:∀ x∈k,TItem P F S x:=fun x hx=>ht x (by simp [hx])
    have two:∀ {a:Item},TItem P F S a→∀ x∈a :: k,TItem P F S x:=fun ha x hx=>by
      rcases List.mem_cons.1 hx with rfl | hx
      · exact ha
      · exact hk x hx
    cases it with
    | code c=>
      cases c with
      | skip=>exact ctlD (f':=⟨fn,tmps,k,[],.run,.normal,none⟩) hs (fun K cs2 u _=>rfl) (mk hk) (.inl rfl)
      | ret=>exact ctlD (f':=⟨fn,tmps,.code .ret :: k,[],.returning,.normal,none⟩) hs (fun K cs2 u hK=>by rw [hK (.inr ⟨_,rfl⟩)];simp only [G,extD,stepG,stepG.exec,List.append_nil];rfl) (mk ht) (.inr rfl)
      | seq a b=>
        have hab:okCodeS P F S a=true∧okCodeS P F S b=true:=by simpa [TItem,okCodeS] using hit
        exact ctlD (f':=⟨fn,tmps,.code a :: .code b :: k,[],.run,.normal,none⟩) hs (fun K cs2 u _=>rfl) (mk fun x hx=>by
          rcases List.mem_cons.1 hx with rfl | hx
          · exact hab.1
          · exact two (a:=.code b) hab.2 x hx) (.inl rfl)
      | cond c a b=>
        have hab:okCodeS P F S a=true∧okCodeS P F S b=true:=by simpa [TItem,okCodeS] using hit
        cases he:(⟨fn,tmps,.code (.cond c a b) :: k,[],.run,.normal,none⟩:Frame).eval c with
        | bool t=>
          refine ctlD (f':=⟨fn,tmps,.code (if t then a else b) :: k,[],.run,.normal,none⟩) hs (fun K cs2 u _ => ?_) (mk (two (a:=.code (if t then a else b)) (by cases t <;> simp [TItem,hab]))) (.inl rfl)
          have he':(extD K ⟨fn,tmps,.code (.cond c a b) :: k,[],.run,.normal,none⟩).eval c = .bool t:=by rw [evalD];exact he
          simp only [extD,List.cons_append] at he'
          simp only [G,extD,stepG,stepG.exec,List.cons_append,he']
        | _=>exact .inl ⟨_,_,_,by simp only [G,stepG,stepG.exec,he];rfl⟩
      | block id c=>exact ctlD (f':=⟨fn,tmps,.code c :: .inBlock id :: k,[],.run,.normal,none⟩) hs (fun K cs2 u _=>rfl) (mk fun x hx=>by
          rcases List.mem_cons.1 hx with rfl | hx
          · exact hit
          · exact two (a:=.inBlock id) trivial x hx) (.inl rfl)
      | loop c=>exact ctlD (f':=⟨fn,tmps,.code c :: .inLoop c :: k,[],.run,.normal,none⟩) hs (fun K cs2 u _=>rfl) (mk fun x hx=>by
          rcases List.mem_cons.1 hx with rfl | hx
          · exact hit
          · exact two (a:=.inLoop c) hit x hx) (.inl rfl)
      | exit id=>
        cases he:exitTo id k with
        | none=>exact .inl ⟨_,_,_,by simp only [G,stepG,stepG.exec,he,Option.elim];rfl⟩
        | some k'=>exact ctlD (f':=⟨fn,tmps,k',[],.run,.normal,none⟩) hs (fun K cs2 u _=>by simp only [G,extD,stepG,stepG.exec,List.cons_append,exitTo_app he,Option.elim]) (mk fun x hx=>hk x (exitTo_mem he x hx)) (.inl rfl)
      | region id ops draw=>
        have ho:ops.all (okOpS P F S)=true:=hit
        cases draw with
        | false=>exact ctlD (f':=⟨fn,tmps,.inRegion ops (List.range ops.size) :: k,[],.run,.normal,none⟩) hs (fun K cs2 u _=>rfl) (mk (two (a:=.inRegion ops _) ho)) (.inl rfl)
        | true=>
          have hc:∀ u:World,(choose (.order fn id)).run P u = .ok (u.tape u.drawn (.order fn id)) { u with drawn:=u.drawn+1 }:=fun u=>rfl
          have et:w.tape w.drawn (.order fn id)=v.tape v.drawn (.order fn id):=by simpa using hs.str 0 (.order fn id)
          refine .inr (.inr ⟨_,{ v with drawn:=v.drawn+1 },#[],{ w with drawn:=w.drawn+1 },by simp only [G,stepG,stepG.exec,Bool.not_true,Bool.false_eq_true,if_false,hc],⟨rfl,Nat.le_succ _,fun τ hτ=>by simp only [G,stepG,stepG.exec,Bool.not_true,Bool.false_eq_true,if_false,hc,hτ v.drawn (Nat.le_refl _) (Nat.lt_succ_self _)]⟩,hs.draw,Nat.le_refl _,fun e he=>by simp at he,
            .here (f':=⟨fn,tmps,.inRegion ops (Region.schedule (P.follows .mixedOrders) ops (v.tape v.drawn (.order fn id))) :: k,[],.run,.normal,none⟩) rfl (mk (two (a:=.inRegion ops _) ho)) (.inl rfl) fun K cs2 _ => ?_⟩)
          simp only [G,extD,stepG,stepG.exec,List.cons_append,Bool.not_true,Bool.false_eq_true,if_false,hc,et]
      | _=>cases hit
    | inBlock id=>exact ctlD (f':=⟨fn,tmps,k,[],.run,.normal,none⟩) hs (fun K cs2 u _=>rfl) (mk hk) (.inl rfl)
    | inLoop c=>exact ctlD (f':=⟨fn,tmps,.code c :: .inLoop c :: k,[],.run,.normal,none⟩) hs (fun K cs2 u _=>rfl) (mk fun x hx=>by
          rcases List.mem_cons.1 hx with rfl | hx
          · exact hit
          · exact two (a:=.inLoop c) hit x hx) (.inl rfl)
    | inRegion ops is=>
      cases is with
      | nil=>exact ctlD (f':=⟨fn,tmps,k,[],.run,.normal,none⟩) hs (fun K cs2 u _=>rfl) (mk hk) (.inl rfl)
      | cons i rest=>
        have ho:ops.all (okOpS P F S)=true:=hit
        cases hw:((ops[i]?).map (Region.wanted · (yielded ops tmps))).getD false with
        | false=>
          refine ctlD (f':=(⟨fn,tmps,.inRegion ops (i :: rest) :: k,[],.run,.normal,none⟩:Frame).finish undef) hs (fun K cs2 u _ => ?_) ⟨⟨fun0,hfn⟩,rfl,rfl,rfl,S,two (a:=.inRegion ops _) ho,hS.un _⟩ (.inl rfl)
          simp only [G,extD,stepG,stepG.exec,List.cons_append,hw,Bool.false_eq_true,if_false,Frame.finish]
        | true=>
          cases hoi:ops[i]? with
          | none=>rw [hoi] at hw;cases hw
          | some o=>
            have hok:okOpS P F S o=true:=Array.all_eq_true_iff_forall_mem.1 ho o (Array.mem_of_getElem? hoi)
            have eA:∀ K cs2 u,stepG P true (G (extD K ⟨fn,tmps,.inRegion ops (i :: rest) :: k,[],.run,.normal,none⟩) cs2) u =
                stepG.apply P true (extD K ⟨fn,tmps,.inRegion ops (i :: rest) :: k,[],.run,.normal,none⟩) cs2 none (execOp (⟨fn,tmps,.inRegion ops (i :: rest) :: k,[],.run,.normal,none⟩:Frame).eval o) u:=fun K cs2 u=>by
              rw [← evalD K]
              rw [hoi] at hw
              simp only [G,extD,stepG,stepG.exec,List.cons_append,hoi]
              rw [if_pos hw]
              exact oper_plain (fun c h=>by unfold okOpS at hok;rw [h,Bool.and_eq_true] at hok;cases hok.2) (by simp only [Frame.oper?,hoi])
            obtain ⟨hpl,hlf⟩:=exec_ok hF (ρ:=(⟨fn,tmps,.inRegion ops (i :: rest) :: k,[],.run,.normal,none⟩:Frame).eval) (fun _=>rfl) (fun _=>rfl) hS hok
            have hsr:∀ {x:FuncId×Nat} {v v':World} {es es':Array Event} {n:Next},okSrc S x o.op=true→(execOp (⟨fn,tmps,.inRegion ops (i :: rest) :: k,[],.run,.normal,none⟩:Frame).eval o).runT P v es=(.ok n v',es')→∃ u,n = .value u∧(u=undef∨∃ fs cs,u = .func (.func x.1) fs cs∧fs.size+cs.size=x.2):=fun h hr=>src_run (fun _=>rfl) hS h hr
            have fin:∀ u,(⟨fn,tmps,.inRegion ops (i :: rest) :: k,[],.run,.normal,none⟩:Frame).finish u=⟨fn,putD o.dst tmps u,.inRegion ops rest :: k,[],.run,.normal,none⟩:=fun u=>by
              simp only [Frame.finish,hoi,Option.bind_some]
              rfl
            generalize execOp (⟨fn,tmps,.inRegion ops (i :: rest) :: k,[],.run,.normal,none⟩:Frame).eval o=sem at eA hpl hlf hsr
            have eA0:=eA ⟨[],none,[]⟩ cs v
            rw [extD_none rfl rfl] at eA0
            cases hrun:sem.runT P v #[] with
            | mk r es=>
              cases r with
              | halt h v'=>
                have hh:=hpl.halts w v #[] h v' es hs hrun
                cases h with
                | panic u=>
                  exact .inr (.inl ⟨_,_,_,by rw [eA0];simp only [stepG.apply,if_true,hrun];rfl⟩)
                | stuck s=>exact .inl ⟨_,_,_,by rw [eA0];simp only [stepG.apply,if_true,hrun];rfl⟩
                | unsupported u=>
                  cases u with
                  | initOrder b=>exact hh.elim
                  | _=>exact .inl ⟨_,_,_,by rw [eA0];simp only [stepG.apply,if_true,hrun];rfl⟩
                | _=>exact hh.elim
              | ok x v'=>
                obtain ⟨w',hrun',hs',hsz,hev⟩:=hpl.sim w v #[] x v' es hs hrun
                obtain ⟨ht1,ht2,ht3⟩:=hpl.tape v #[] x v' es hs.nv hrun
                have eAτ:∀ τ:Nat→Question→Nat,stepG P true (G ⟨fn,tmps,.inRegion ops (i :: rest) :: k,[],.run,.normal,none⟩ cs) { v with tape:=τ } = stepG.apply P true ⟨fn,tmps,.inRegion ops (i :: rest) :: k,[],.run,.normal,none⟩ cs none sem { v with tape:=τ }:=fun τ=>by
                  have:=eA ⟨[],none,[]⟩ cs { v with tape:=τ }
                  rwa [extD_none rfl rfl] at this
                have hsz':w.heap.size≤w'.heap.size:=by rw [hs.size,hs'.size];exact hsz
                have hevs:EvsP X w' (seen P fn es):=fun e he=>(hev e (mem_seen he)).resolve_left (by simp)
                rcases leaf_run sem hlf v #[] x v' es hrun with ⟨u,rfl⟩ | rfl | ⟨f1,as,hf1,has,rfl⟩
                · refine .inr (.inr ⟨_,_,seen P fn es,w',by rw [eA0];simp only [stepG.apply,if_true,hrun,GStep.after];rfl,⟨ht1,ht2,fun τ hτ=>by rw [eAτ];simp only [stepG.apply,if_true,ht3 τ hτ,GStep.after];rfl⟩,hs',hsz',hevs,
                    .here (f':=(⟨fn,tmps,.inRegion ops (i :: rest) :: k,[],.run,.normal,none⟩:Frame).finish u) rfl (by rw [fin];exact ⟨⟨fun0,hfn⟩,rfl,rfl,rfl,S,two (a:=.inRegion ops _) ho,hS.put fun x hx hd=>by obtain ⟨u',e,h⟩:=hsr (ok_src hok hx hd) hrun;cases e;exact h⟩) (.inl rfl) fun K cs2 _ => ?_⟩)
                  rw [eA]
                  simp only [stepG.apply,if_true,hrun',GStep.after]
                  rfl
                · refine .inr (.inr ⟨_,_,seen P fn es,w',by rw [eA0];simp only [stepG.apply,if_true,hrun,GStep.after];rfl,⟨ht1,ht2,fun τ hτ=>by rw [eAτ];simp only [stepG.apply,if_true,ht3 τ hτ,GStep.after];rfl⟩,hs',hsz',hevs,
                    .here (f':=(⟨fn,tmps,.inRegion ops (i :: rest) :: k,[],.run,.normal,none⟩:Frame).finish undef) rfl (by rw [fin];exact ⟨⟨fun0,hfn⟩,rfl,rfl,rfl,S,two (a:=.inRegion ops _) ho,hS.un _⟩) (.inl rfl) fun K cs2 _ => ?_⟩)
                  rw [eA]
                  simp only [stepG.apply,if_true,hrun',GStep.after]
                  rfl
                · obtain ⟨fn1,c1,S1,g1,g2,g3,g4,g5⟩:=hf1
                  refine .inr (.inr ⟨_,_,seen P fn es,w',by rw [eA0];simp only [stepG.apply,if_true,hrun,GStep.after];rfl,⟨ht1,ht2,fun τ hτ=>by rw [eAτ];simp only [stepG.apply,if_true,ht3 τ hτ,GStep.after];rfl⟩,hs',hsz',hevs,
                    .call (e:=Frame.enter P f1 as .normal) rfl ⟨⟨fn1,g1⟩,rfl,rfl,rfl,S1,fun x hx => ?_,InvS.enter has g5⟩ rfl ⟨by simp,fun u=>by rw [fin];exact ⟨⟨fun0,hfn⟩,rfl,rfl,rfl,S,two (a:=.inRegion ops _) ho,hS.put fun x hx hd=>by obtain ⟨u',e,h⟩:=hsr (ok_src hok hx hd) hrun;cases e⟩⟩ fun K cs2 => ?_⟩)
                  · simp only [Frame.enter,g1,Option.bind_some,g3,Option.getD_some,List.mem_singleton] at hx
                    subst hx
                    exact g4
                  · rw [eA]
                    simp only [stepG.apply,if_true,hrun',GStep.after]
                    rfl
    | _=>cases hit
def extSD (E:Ext) (cs:List Frame):List Frame→List Frame
  | []=>cs
  | [b]=>extD E b :: cs
  | c :: d :: r=>c :: extSD E cs (d :: r)
def extGD (E:Ext) (cs:List Frame) (f:Frame) (r:List Frame):Goroutine:=
  match r with
  | []=>G (extD E f) cs
  | c :: r=>G f (extSD E cs (c :: r))
theorem finishD {c:Frame} (hT:TFr P F c) (hne:c.todo≠[]) (E:Ext) (v:Value):(extD E c).finish v=extD E (c.finish v):=by
  obtain ⟨fn,tmps,todo,defers,mode,kind,round⟩:=c
  obtain ⟨h1,hk,hd,hr,S,ht,_⟩:=hT
  dsimp only at h1 hk hd hr ht hne
  subst hk hd hr
  cases todo with
  | nil=>exact absurd rfl hne
  | cons it k=>
    have hit:=ht it (by simp)
    cases it with
    | inRegion ops is=>
      cases is with
      | nil=>rfl
      | cons i rest=>rfl
    | code c=>rfl
    | inBlock id=>rfl
    | inLoop c=>rfl
    | _=>cases hit
theorem ends_ret {f:Frame} (hT:TFr P F f) (hm:f.mode = .run) (ht:Ends f.todo) (cs:List Frame) (u:World):stepG P true (G f cs) u = .go (G { f with mode:=.returning } cs) u #[]:=by
  obtain ⟨fn,tmps,todo,defers,mode,kind,round⟩:=f
  have hk:=hT.kind
  have hd:=hT.defers
  have hr:=hT.round
  dsimp only at hk hd hr ht hm
  subst hk hd hr hm
  rcases ht with rfl | ⟨k,rfl⟩ <;> rfl
variable (P F X Y D Stop) in
structure SgD (E:Ext) (cs:List Frame) (fn:FuncId) (Q:Exit→Act→World→Prop) (s:Sg):Prop where
  tf:TFr P F s.f
  mode:s.f.mode = .run∨s.f.mode = .returning
  stack:Stack P F s.r
  sim:SimT X Y s.w s.u
  law:∀ τ:Nat→Question→Nat,(∀ p,p < s.u.drawn→τ p=s.u.tape p)→∃ n a' v',ownN P n s.f (s.r++[f0]) { s.u with tape:=τ } ((base fn).at a' []) [f0] v' ∧ Q .normal a' v'
  no:¬ GoesI P D Stop (extGD E cs s.f s.r) s.w
theorem sgD_end {K:Ext} {cs:List Frame} {fn:FuncId} {Q:Exit→Act→World→Prop} (hK:∀ a' v' w',Q .normal a' v' → SimT X Y w' v' → GoesI P D Stop (G (extD K ((base fn).at a' [])) cs) w') {s:Sg} (hi:SgD P F X Y D Stop K cs fn Q s) {τ:Nat→Question→Nat} {a':Act} {v':World}
    (h:ownN P 0 s.f (s.r++[f0]) { s.u with tape:=τ } ((base fn).at a' []) [f0] v') (hq:Q .normal a' v'):False:=by
  obtain ⟨h1,h2,h3⟩:=own_zero h
  have hr:s.r=[]:=by
    have:=congrArg List.length h2
    simp at this
    exact this
  apply hi.no
  have:extGD K cs s.f s.r=G (extD K ((base fn).at a' [])) cs:=by rw [hr,h1];rfl
  rw [this]
  refine hK a' v' s.w hq ?_
  rw [← h3]
  exact hi.sim.to τ s.u.drawn
theorem sgD_next (hF:GoodF P F) (hD:Dok X D) {K:Ext} {cs:List Frame} {fn:FuncId} {Q:Exit→Act→World→Prop} (hK:∀ a' v' w',Q .normal a' v' → SimT X Y w' v' → GoesI P D Stop (G (extD K ((base fn).at a' [])) cs) w') {s:Sg}
    (hi:SgD P F X Y D Stop K cs fn Q s):∃ s',SgD P F X Y D Stop K cs fn Q s' ∧ SgNext P s s':=by
  have hst:(extGD K cs s.f s.r).status = .running:=by cases s.r <;> rfl
  obtain ⟨d,hd⟩:∃ d,∀ g' w' es,stepG P true (extGD K cs s.f s.r) (s.w.at d) = .go g' w' es→D s.w.heap.size w' es→¬ GoesI P D Stop g' w':=by
    refine Classical.byContradiction fun hno=>hi.no (.next hst fun d => ?_)
    refine Classical.byContradiction fun hd=>hno ⟨d,fun g' w' es h1 h2 h3=>hd ⟨g',w',es,h1,h2,h3⟩⟩
  let τ₁:Nat→Question→Nat:=fun p q=>if p < s.u.drawn then s.u.tape p q else s.w.tape (d+(p - s.u.drawn)) q
  have hs:Sim X Y (s.w.at d) { s.u with tape:=τ₁ }:=hi.sim.re d s.u.drawn τ₁ fun i q=>by
    show s.w.tape (d+i) q=if s.u.drawn+i < s.u.drawn then _ else _
    rw [if_neg (by omega),show s.u.drawn+i - s.u.drawn=i by omega]
  have hag:∀ p,p < s.u.drawn→τ₁ p=s.u.tape p:=fun p hp=>by
    funext q
    show (if p < s.u.drawn then _ else _)=_
    rw [if_pos hp]
  obtain ⟨n,a',v',hn,hq⟩:=hi.law τ₁ hag
  cases n with
  | zero=>exact (sgD_end hK hi hn hq).elim
  | succ n=>
    have mk:∀ (f':Frame) (r':List Frame) (u₂ w₂:World) (es:Array Event),TFr P F f' → (f'.mode = .run∨f'.mode = .returning)→Stack P F r' → Sim X Y w₂ u₂→Tp P (G s.f (s.r++[f0])) { s.u with tape:=τ₁ } (G f' (r' ++ [f0])) u₂ es →
        stepG P true (extGD K cs s.f s.r) (s.w.at d) = .go (extGD K cs f' r') w₂ es→s.w.heap.size≤w₂.heap.size→EvsP X w₂ es→∃ s',SgD P F X Y D Stop K cs fn Q s' ∧ SgNext P s s':=fun f' r' u₂ w₂ es h1 h2 h3 h4 h5 h6 h8 h7=>by
      obtain ⟨t1,t2,t3⟩:=h5
      dsimp only at t1 t2 t3
      refine ⟨⟨f',r',u₂,w₂⟩,⟨h1,h2,h3,h4.t,fun τ hτ => ?_,hd _ _ _ h6 (hD _ _ _ h8 h7)⟩,t2,fun p hp=>by rw [t1];exact hag p hp,fun τ hτ=>⟨es,t3 τ fun p hp1 hp2=>by rw [hτ p hp1 hp2,t1]⟩⟩
      dsimp only at hτ
      obtain ⟨n,a',v',hn,hq⟩:=hi.law τ fun p hp=>by rw [hτ p (by omega),t1];exact hag p hp
      cases n with
      | zero=>exact (sgD_end hK hi hn hq).elim
      | succ n=>exact ⟨n,a',v',own_go (t3 τ fun p _ hp2=>by rw [hτ p hp2,t1]) hn,hq⟩
    rcases hi.mode with hm | hm
    · by_cases hend:s.r=[]∧Ends s.f.todo
      · obtain ⟨hr,ht⟩:=hend
        rw [hr] at hn
        have e:=ends_ret hi.tf hm ht ([]++[f0]) { s.u with tape:=τ₁ }
        have h2:=own_go e hn
        cases n with
        | zero=>
          obtain ⟨h3,_⟩:=own_zero h2
          have:=congrArg Frame.mode h3
          cases this
        | succ n=>
          rcases tback (c:=f0) (r:=[]) (f:={ s.f with mode:=.returning }) (F:=F) ⟨hi.tf.fn,hi.tf.kind,hi.tf.defers,hi.tf.round,hi.tf.todo⟩ rfl hs with ⟨o,v'',es',he⟩ | ⟨y,v'',es',w',he,_⟩
          · exact (own_end he h2).elim
          · exact absurd (own_go he h2) (f0_end n _ _ v')
      · rcases tstepD (cs:=s.r++[f0]) hF hi.tf hm hs with ⟨o,v'',es',he⟩ | ⟨ch,v'',es',he⟩ | ⟨g',v'',es',w',he,htp,hs',hsz,hev,hway⟩
        · exact (own_end he hn).elim
        · exact absurd (own_go he hn) (dead_end (F:=F) n _ s.r ch _ _ [f0] v' (stack_mem hi.stack) rfl ⟨hi.tf.fn,hi.tf.defers⟩ rfl)
        · cases hway with
          | @here f' hg hT' hm' hB=>
            subst hg
            refine mk f' s.r v'' w' es' hT' hm' hi.stack hs' htp ?_ hsz hev
            cases hr:s.r with
            | nil=>exact hB K cs fun ht=>absurd ⟨hr,ht⟩ hend
            | cons c r=>
              have:=hB ⟨[],none,[]⟩ (extSD K cs (c :: r)) (fun _=>rfl)
              rw [extD_none hi.tf.round hi.tf.defers,extD_none hT'.round hT'.defers] at this
              exact this
          | @call e hg hTe hme hne hB=>
            subst hg
            refine mk e (s.f :: s.r) v'' w' es' hTe (.inl hme) ⟨⟨hi.tf,hm,hne.1,finish_ok hi.tf hm hne⟩,hi.stack⟩ hs' htp ?_ hsz hev
            cases hr:s.r with
            | nil=>exact hB K cs
            | cons c r=>
              have:=hB ⟨[],none,[]⟩ (extSD K cs (c :: r))
              rw [extD_none hi.tf.round hi.tf.defers] at this
              exact this
    · cases hr:s.r with
      | nil=>
        rw [hr] at hn
        rcases tback (c:=f0) (r:=[]) (F:=F) hi.tf hm hs with ⟨o,v'',es',he⟩ | ⟨y,v'',es',w',he,_⟩
        · exact (own_end he hn).elim
        · exact absurd (own_go he hn) (f0_end n _ _ v')
      | cons c r=>
        have hS:=hi.stack
        rw [hr] at hn hS mk
        rcases tback (c:=c) (r:=r++[f0]) (F:=F) hi.tf hm hs with ⟨o,v'',es',he⟩ | ⟨y,v'',es',w',he,htp,hs',hsz,hev,hB⟩
        · exact (own_end he hn).elim
        · obtain ⟨hTc,hmc,hfin⟩:=hS.1.2.2.2 y
          refine mk (c.finish y) r v'' w' es' hTc (.inl hmc) hS.2 hs' htp ?_ hsz hev
          cases r with
          | nil=>
            have:=hB (extD K c) cs
            rw [finishD hS.1.1 hS.1.2.2.1 K] at this
            exact this
          | cons d r=>exact hB c (extSD K cs (d :: r))
theorem segD (hF:GoodF P F) (hD:Dok X D) {c:Code} (hc:okCode P F c=true) {Q:Exit→Act→World→Prop} {a:Act} {v:World} (h:∀ τ d,c.wp P Q a { v with tape:=τ,drawn:=d }) (hQ:∀ e a' v',Q e a' v' → e = .normal∧a'.defers=[]) (ha:a.defers=[])
    {fn:FuncId} (hf:∃ fun0,P.funcs[fn]? = some fun0) {w:World} (hs:SimT X Y w v) {K:Ext} {cs:List Frame} (hK:∀ a' v' w',Q .normal a' v' → SimT X Y w' v' → GoesI P D Stop (G (extD K ((base fn).at a' [])) cs) w'):GoesI P D Stop (G (extD K ((base fn).at a [.code c])) cs) w:=by
  refine Classical.byContradiction fun hno => ?_
  have start:SgD P F X Y D Stop K cs fn Q ⟨(base fn).at a [.code c],[],{ v with drawn:=0 },w⟩:=by
    refine ⟨⟨hf,rfl,ha,rfl,[],fun x hx=>by simp [Frame.at] at hx;subst hx;exact hc,InvS.nil⟩,.inl rfl,trivial,hs.to v.tape 0,fun τ _ => ?_,hno⟩
    obtain ⟨e,a',v',hq,harr⟩:=h τ 0 (base fn) [] [f0]
    obtain ⟨rfl,_⟩:=hQ _ _ _ hq
    obtain ⟨n,hn⟩:Steps P (lone ((base fn).at a [.code c]) [f0] { v with tape:=τ,drawn:=0 }) (lone ((base fn).at a' []) [f0] v'):=harr
    exact ⟨n,a',v',hn,hq⟩
  let nx:{s // SgD P F X Y D Stop K cs fn Q s} → {s // SgD P F X Y D Stop K cs fn Q s}:=fun s=>⟨(sgD_next hF hD hK s.2).choose,(sgD_next hF hD hK s.2).choose_spec.1⟩
  have nxs:∀ s,SgNext P s.1 (nx s).1:=fun s=>(sgD_next hF hD hK s.2).choose_spec.2
  let q:Nat → {s // SgD P F X Y D Stop K cs fn Q s}:=fun n=>Nat.rec ⟨_,start⟩ (fun _ s=>nx s) n
  have qs:∀ n,SgNext P (q n).1 (q (n+1)).1:=fun n=>nxs (q n)
  have mono:∀ n m,n≤m→(q n).1.u.drawn≤(q m).1.u.drawn∧∀ p,p < (q n).1.u.drawn→(q m).1.u.tape p=(q n).1.u.tape p:=by
    intro n m hnm
    induction m with
    | zero=>
      obtain rfl:n=0:=by omega
      exact ⟨Nat.le_refl _,fun _ _=>rfl⟩
    | succ m ih=>
      rcases Nat.lt_or_ge n (m+1) with hlt | hge
      · obtain ⟨h1,h2⟩:=ih (by omega)
        have h3:=qs m
        exact ⟨Nat.le_trans h1 h3.1,fun p hp=>(h3.2.1 p (by omega)).trans (h2 p hp)⟩
      · obtain rfl:n=m+1:=by omega
        exact ⟨Nat.le_refl _,fun _ _=>rfl⟩
  have dec:∀ p,Decidable (∃ n,p < (q n).1.u.drawn):=fun p=>Classical.propDecidable _
  let τ:Nat→Question→Nat:=fun p=>if h:∃ n,p < (q n).1.u.drawn then (q h.choose).1.u.tape p else fun _=>0
  have agree:∀ n p,p < (q n).1.u.drawn→τ p=(q n).1.u.tape p:=fun n p hp=>by
    have hex:∃ n,p < (q n).1.u.drawn:=⟨n,hp⟩
    show (if h:∃ n,p < (q n).1.u.drawn then (q h.choose).1.u.tape p else fun _=>0)=_
    rw [dif_pos hex]
    have hc:=hex.choose_spec
    rcases Nat.le_total n hex.choose with hle | hle
    · exact (mono n _ hle).2 p hp
    · exact ((mono _ n hle).2 p hc).symm
  have never:∀ (m i:Nat) (a':Act) (v':World),ownN P m (q i).1.f ((q i).1.r++[f0]) { (q i).1.u with tape:=τ } ((base fn).at a' []) [f0] v' → Q .normal a' v' → False:=by
    intro m
    induction m with
    | zero=>exact fun i a' v' h hq=>sgD_end hK (q i).2 h hq
    | succ m ih=>
      intro i a' v' h hq
      obtain ⟨es,he⟩:=(qs i).2.2 τ fun p _ hp=>agree (i+1) p hp
      exact ih (i+1) a' v' (own_go he h) hq
  obtain ⟨n,a',v',hn,hq⟩:=(q 0).2.law τ fun p hp=>agree 0 p hp
  exact never n 0 a' v' hn hq
def Dn (ro:Option Nat) (ds:List Deferred) (f:FuncId) (T:Array Value) (k:List Item):Frame:={ fn:=f,tmps:=T,todo:=k,defers:=ds,mode:=.run,kind:=.normal,roundOf:=ro }
def ReaR (P:Program) (X:Nat→Prop) (Y:Nat→Option Obj) (D:Nat→World→Array Event→Prop) (Stop:Goroutine→World→Prop) (ro:Option Nat) (ds:List Deferred) (f:FuncId) (cs:List Frame) (k:List Item) (T:Array Value) (v:World):Prop:=
  ∀ w,SimT X Y w v→GoesI P D Stop (G (Dn ro ds f T k) cs) w
theorem reaR_code (hF:GoodF P F) (hD:Dok X D) {ro:Option Nat} {ds:List Deferred} {f:FuncId} {cs:List Frame} {k:List Item} {c:Code} (hc:okCode P F c=true) {T:Array Value} {v:World} (hf:∃ fn,P.funcs[f]? = some fn)
    (h:∀ τ d,c.wp P (fun e a' v'=>e = .normal∧a'.defers=[]∧ReaR P X Y D Stop ro ds f cs k a'.tmps v') ⟨T,[]⟩ { v with tape:=τ,drawn:=d }):ReaR P X Y D Stop ro ds f cs (.code c :: k) T v:=
  fun _ hs=>segD (K:=⟨k,ro,ds⟩) (fn:=f) (a:=⟨T,[]⟩) hF hD hc h (fun _ _ _ x=>⟨x.1,x.2.1⟩) rfl hf hs fun _ _ w' hq hs'=>hq.2.2 w' hs'
end
end Go.Lf
