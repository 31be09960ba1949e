/-
  Beside those that leave: a call by its contract, and a region that draws its order.
-/
import Derived.Test.YtkpcmfgeanlcnabGreatDoorLfO
import Derived.Test.YtkpcmfgeanlcnabGreatDoorCoG
import Derived.Test.YtkpcmfgeanlcnabGreatDoorCoL
import Derived.Test.YtkpcmfgeanlcnabGreatDoorSvX
namespace Go.Lf
open Go.Conc
section
variable {P:Program} {F:FuncId→Bool} {X:Nat→Prop} {Y:Nat→Option Obj} {D:Nat→World→Array Event→Prop} {Stop:Goroutine→World→Prop}
variable (P F X Y D Stop) in
structure SgC (cs:List Frame) (Q:Frame→World→Prop) (s:Sg):Prop where
  tf:TFr P F s.f
  mode:s.f.mode = .run∨s.f.mode = .returning
  stack:Stack P F s.r
  sim:SimT X Y s.w s.u
  law:∀ τ:Nat→Question→Nat,(∀ p,p < s.u.drawn→τ p=s.u.tape p)→∃ n fz v',ownN P n s.f (s.r++[f0]) { s.u with tape:=τ } fz [f0] v' ∧ fz.mode = .returning∧Q fz v'
  no:¬ GoesI P D Stop (G s.f (s.r++cs)) s.w
theorem sgC_end {cs:List Frame} {Q:Frame→World→Prop} (hK:∀ fz v' w',TFr P F fz→fz.mode = .returning→Q fz v' → SimT X Y w' v' → GoesI P D Stop (G fz cs) w') {s:Sg} (hi:SgC P F X Y D Stop cs Q s) {τ:Nat→Question→Nat} {fz:Frame} {v':World}
    (h:ownN P 0 s.f (s.r++[f0]) { s.u with tape:=τ } fz [f0] v') (hm:fz.mode = .returning) (hq:Q fz v'):False:=by
  obtain ⟨h1,h2,h3⟩:=own_zero h
  have hr:s.r=[]:=by
    have:=congrArg List.length h2
    simp at this
    exact this
  apply hi.no
  have:G s.f (s.r++cs)=G fz cs:=by rw [hr,h1];rfl
  rw [this]
  refine hK fz v' s.w (h1 ▸ hi.tf) hm hq ?_
  rw [← h3]
  exact hi.sim.to τ s.u.drawn
theorem sgC_next (hF:GoodF P F) (hD:Dok X D) {cs:List Frame} {Q:Frame→World→Prop} (hK:∀ fz v' w',TFr P F fz→fz.mode = .returning→Q fz v' → SimT X Y w' v' → GoesI P D Stop (G fz cs) w') {s:Sg}
    (hi:SgC P F X Y D Stop cs Q s):∃ s',SgC P F X Y D Stop cs Q s' ∧ SgNext P s s':=by
  obtain ⟨d,hd⟩:∃ d,∀ g' w' es,stepG P true (G s.f (s.r++cs)) (s.w.at d) = .go g' w' es→D s.w.heap.size w' es→¬ GoesI P D Stop g' w':=by
    refine Classical.byContradiction fun hno=>hi.no (.next rfl fun d => ?_)
    refine Classical.byContradiction fun hd=>hno ⟨d,fun g' w' es h1 h2 h3=>hd ⟨g',w',es,h1,h2,h3⟩⟩
  let τ₁:Nat→Question→Nat:=fun p q=>if p < s.u.drawn then s.u.tape p q else s.w.tape (d+(p - s.u.drawn)) q
  have hs:Sim X Y (s.w.at d) { s.u with tape:=τ₁ }:=hi.sim.re d s.u.drawn τ₁ fun i q=>by
    show s.w.tape (d+i) q=if s.u.drawn+i < s.u.drawn then _ else _
    rw [if_neg (by omega),show s.u.drawn+i - s.u.drawn=i by omega]
  have hag:∀ p,p < s.u.drawn→τ₁ p=s.u.tape p:=fun p hp=>by
    funext q
    show (if p < s.u.drawn then _ else _)=_
    rw [if_pos hp]
  obtain ⟨n,fz,v',hn,hzm,hq⟩:=hi.law τ₁ hag
  cases n with
  | zero=>exact (sgC_end hK hi hn hzm hq).elim
  | succ n=>
    have mk:∀ (f':Frame) (r':List Frame) (u₂ w₂:World) (es:Array Event),TFr P F f' → (f'.mode = .run∨f'.mode = .returning)→Stack P F r' → Sim X Y w₂ u₂→Tp P (G s.f (s.r++[f0])) { s.u with tape:=τ₁ } (G f' (r' ++ [f0])) u₂ es →
        stepG P true (G s.f (s.r++cs)) (s.w.at d) = .go (G f' (r' ++ cs)) w₂ es→s.w.heap.size≤w₂.heap.size→EvsP X w₂ es→∃ s',SgC P F X Y D Stop cs Q s' ∧ SgNext P s s':=fun f' r' u₂ w₂ es h1 h2 h3 h4 h5 h6 h8 h7=>by
      obtain ⟨t1,t2,t3⟩:=h5
      dsimp only at t1 t2 t3
      refine ⟨⟨f',r',u₂,w₂⟩,⟨h1,h2,h3,h4.t,fun τ hτ => ?_,hd _ _ _ h6 (hD _ _ _ h8 h7)⟩,t2,fun p hp=>by rw [t1];exact hag p hp,fun τ hτ=>⟨es,t3 τ fun p hp1 hp2=>by rw [hτ p hp1 hp2,t1]⟩⟩
      dsimp only at hτ
      obtain ⟨n,fz,v',hn,hzm,hq⟩:=hi.law τ fun p hp=>by rw [hτ p (by omega),t1];exact hag p hp
      cases n with
      | zero=>exact (sgC_end hK hi hn hzm hq).elim
      | succ n=>exact ⟨n,fz,v',own_go (t3 τ fun p _ hp2=>by rw [hτ p hp2,t1]) hn,hzm,hq⟩
    rcases hi.mode with hm | hm
    · rcases tstep (cs:=s.r++[f0]) hF hi.tf hm hs with ⟨o,v'',es',he⟩ | ⟨ch,v'',es',he⟩ | ⟨g',v'',es',w',he,htp,hs',hsz,hev,hway⟩
      · exact (own_end he hn).elim
      · exact absurd (own_go he hn) (dead_end2 (F:=F) n _ s.r ch _ fz [f0] v' (stack_mem hi.stack) rfl ⟨hi.tf.fn,hi.tf.defers⟩ (fun ch e=>by rw [hzm] at e;cases e))
      · cases hway with
        | @here f' hg hT' hm' hB=>
          subst hg
          refine mk f' s.r v'' w' es' hT' hm' hi.stack hs' htp ?_ hsz hev
          have:=hB [] (s.r++cs) (fun _=>rfl)
          rw [extB_nil,extB_nil] at this
          exact this
        | @call e hg hTe hme hne hB=>
          subst hg
          refine mk e (s.f :: s.r) v'' w' es' hTe (.inl hme) ⟨⟨hi.tf,hm,hne.1,finish_ok hi.tf hm hne⟩,hi.stack⟩ hs' htp ?_ hsz hev
          have:=hB [] (s.r++cs)
          rw [extB_nil] at this
          exact this
        | back _ _ hr _=>rw [hm] at hr;cases hr
    · cases hr:s.r with
      | nil=>
        rw [hr] at hn
        rcases tback (c:=f0) (r:=[]) (F:=F) hi.tf hm hs with ⟨o,v'',es',he⟩ | ⟨y,v'',es',w',he,_⟩
        · exact (own_end he hn).elim
        · exact absurd (own_go he hn) (f0_end n _ fz v')
      | cons c r=>
        have hS:=hi.stack
        rw [hr] at hn hS mk
        rcases tback (c:=c) (r:=r++[f0]) (F:=F) hi.tf hm hs with ⟨o,v'',es',he⟩ | ⟨y,v'',es',w',he,htp,hs',hsz,hev,hB⟩
        · exact (own_end he hn).elim
        · obtain ⟨hTc,hmc,_⟩:=hS.1.2.2.2 y
          exact mk (c.finish y) r v'' w' es' hTc (.inl hmc) hS.2 hs' htp (hB c (r++cs)) hsz hev
theorem segC (hF:GoodF P F) (hD:Dok X D) {cs:List Frame} {Q:Frame→World→Prop} {f:Frame} (hT:TFr P F f) (hm:f.mode = .run) {v:World} (h:∀ τ d,∃ n fz v',ownN P n f [f0] { v with tape:=τ,drawn:=d } fz [f0] v' ∧ fz.mode = .returning∧Q fz v')
    {w:World} (hs:SimT X Y w v) (hK:∀ fz v' w',TFr P F fz→fz.mode = .returning→Q fz v' → SimT X Y w' v' → GoesI P D Stop (G fz cs) w'):GoesI P D Stop (G f cs) w:=by
  refine Classical.byContradiction fun hno => ?_
  have start:SgC P F X Y D Stop cs Q ⟨f,[],{ v with drawn:=0 },w⟩:=⟨hT,.inl hm,trivial,hs.to v.tape 0,fun τ _=>h τ 0,hno⟩
  let nx:{s // SgC P F X Y D Stop cs Q s} → {s // SgC P F X Y D Stop cs Q s}:=fun s=>⟨(sgC_next hF hD hK s.2).choose,(sgC_next hF hD hK s.2).choose_spec.1⟩
  have nxs:∀ s,SgNext P s.1 (nx s).1:=fun s=>(sgC_next hF hD hK s.2).choose_spec.2
  let q:Nat → {s // SgC P F X Y D Stop cs Q s}:=fun n=>Nat.rec ⟨_,start⟩ (fun _ s=>nx s) n
  have qs:∀ n,SgNext P (q n).1 (q (n+1)).1:=fun n=>nxs (q n)
  have mono:∀ n m,n≤m→(q n).1.u.drawn≤(q m).1.u.drawn∧∀ p,p < (q n).1.u.drawn→(q m).1.u.tape p=(q n).1.u.tape p:=by
    intro n m hnm
    induction m with
    | zero=>
      obtain rfl:n=0:=by omega
      exact ⟨Nat.le_refl _,fun _ _=>rfl⟩
    | succ m ih=>
      rcases Nat.lt_or_ge n (m+1) with hlt | hge
      · obtain ⟨h1,h2⟩:=ih (by omega)
        have h3:=qs m
        exact ⟨Nat.le_trans h1 h3.1,fun p hp=>(h3.2.1 p (by omega)).trans (h2 p hp)⟩
      · obtain rfl:n=m+1:=by omega
        exact ⟨Nat.le_refl _,fun _ _=>rfl⟩
  have dec:∀ p,Decidable (∃ n,p < (q n).1.u.drawn):=fun p=>Classical.propDecidable _
  let τ:Nat→Question→Nat:=fun p=>if h:∃ n,p < (q n).1.u.drawn then (q h.choose).1.u.tape p else fun _=>0
  have agree:∀ n p,p < (q n).1.u.drawn→τ p=(q n).1.u.tape p:=fun n p hp=>by
    have hex:∃ n,p < (q n).1.u.drawn:=⟨n,hp⟩
    show (if h:∃ n,p < (q n).1.u.drawn then (q h.choose).1.u.tape p else fun _=>0)=_
    rw [dif_pos hex]
    have hc:=hex.choose_spec
    rcases Nat.le_total n hex.choose with hle | hle
    · exact (mono n _ hle).2 p hp
    · exact ((mono _ n hle).2 p hc).symm
  have never:∀ (m i:Nat) (fz:Frame) (v':World),ownN P m (q i).1.f ((q i).1.r++[f0]) { (q i).1.u with tape:=τ } fz [f0] v' → fz.mode = .returning→Q fz v' → False:=by
    intro m
    induction m with
    | zero=>exact fun i fz v' h hm hq=>sgC_end hK (q i).2 h hm hq
    | succ m ih=>
      intro i fz v' h hm hq
      obtain ⟨es,he⟩:=(qs i).2.2 τ fun p _ hp=>agree (i+1) p hp
      exact ih (i+1) fz v' (own_go he h) hm hq
  obtain ⟨n,fz,v',hn,hm,hq⟩:=(q 0).2.law τ fun p hp=>agree 0 p hp
  exact never n 0 fz v' hn hm hq
variable {f:FuncId} {k:List Item} {cs:List Frame} {a:Act} {v:World} {ops:Array Oper} {i:Nat} {rest:List Nat} {o:Oper}
theorem reaI_calls (hF:GoodF P F) (hD:Dok X D) {g:FuncId} (hg:GoodBody P F g) {args:Array Operand} {ats:Array TypeId} {vs:Array Value} {R:Value→World→Prop} (ho:ops[i]? = some o) (hw:Region.wanted o (yielded ops a.tmps)=true) (hop:o.op = .call { callee:=.value (.func g),args,argTypes:=ats }) (hvs:args.map a.eval=vs) (hsz:vs.size≤arity P g)
    (hc:∀ τ d,Calls P g vs { v with tape:=τ,drawn:=d } fun e v'=>∃ y,e = .returned y∧R y v') (h:∀ y v',R y v' → ReaI P X Y D Stop f cs (.inRegion ops rest :: k) (a.put o.dst y) v'):ReaI P X Y D Stop f cs (.inRegion ops (i :: rest) :: k) a v:=by
  subst hvs
  intro w hs
  obtain ⟨fn1,c1,S1,g1,g2,g3,g4,g5⟩:=id hg
  refine .next rfl fun d => ?_
  obtain ⟨g1',w1',es1,hgo,rfl,rfl,rfl⟩:=goes_elim (goes_call (P:=P) (main:=true) (b:=base f) (a:=a) (k:=k) (cs:=cs) (w:=w.at d) (rest:=rest) (K:=fun g1 w1 es=>g1=G ((base g).at { tmps:=args.map a.eval++Array.replicate (fn1.ntmps - (args.map a.eval).size) undef,defers:=[] } [.code c1]) ((base f).at a (.inRegion ops (i :: rest) :: k) :: cs)∧w1=w.at d∧es = #[]) ho hw (by intro h;cases h) hop g1 g2 g3 ⟨rfl,rfl,rfl⟩)
  refine ⟨_,_,_,hgo,hD.nil (Nat.le_refl _),?_⟩
  have e0:G ((base g).at { tmps:=args.map a.eval++Array.replicate (fn1.ntmps - (args.map a.eval).size) undef,defers:=[] } [.code c1]) ((base f).at a (.inRegion ops (i :: rest) :: k) :: cs)=G (Frame.enter P g (args.map a.eval) .normal) ((base f).at a (.inRegion ops (i :: rest) :: k) :: cs):=by rw [← enter_at _ g1 g3]
  rw [e0]
  refine segC (Q:=fun fr v'=>∃ y,R y v' ∧ fr.defers=[]∧fr.kind = .normal∧∃ fn,P.funcs[fr.fn]? = some fn∧(results fn fr.tmps).run P v' = .ok y v') hF hD (tfr_enter hg hsz) rfl (fun τ d' => ?_) (hs.at d) (fun fz v' w' hT hzm hQ hs' => ?_)
  · obtain ⟨e,v',fr,⟨y,rfl,hR⟩,hcomes,hfn,hlv⟩:=hc τ d' [f0]
    obtain ⟨n,hn⟩:Steps P (lone (Frame.enter P g (args.map a.eval) .normal) [f0] { v with tape:=τ,drawn:=d' }) (lone fr [f0] v'):=hcomes
    obtain ⟨hm,hd,hk,fn,hf,hr⟩:=hlv
    exact ⟨n,fr,v',hn,hm,y,hR,hd,hk,fn,hf,hr⟩
  · obtain ⟨y,hR,hd,hk,fn,hf,hr⟩:=hQ
    refine .next rfl fun d => ?_
    obtain ⟨τ0,d0,hs0⟩:=hs'
    have hsim:Sim X Y (w'.at d) { v' with tape:=fun p=>w'.tape (d+(p - v'.drawn)) }:=SimT.re ⟨τ0,d0,hs0⟩ d v'.drawn _ fun i q=>by
      show w'.tape (d+i) q=w'.tape (d+(v'.drawn+i - v'.drawn)) q
      rw [Nat.add_sub_cancel_left]
    obtain ⟨_,_,ht3⟩:=tape_run (results fn fz.tmps) v' #[] y v' ((results fn fz.tmps).events P v' #[]) (plain_results fn fz.tmps) hs0.nv (by rw [Sem.runT_eq,hr])
    have hr2:=ht3 (fun p=>w'.tape (d+(p - v'.drawn))) (fun p h1 h2=>absurd h2 (by omega))
    obtain ⟨w3,h1,h2,h3,h4⟩:=sim_run (results fn fz.tmps) (w'.at d) _ #[] y _ _ (plain_results fn fz.tmps) hsim hr2
    refine ⟨G ((base f).at (a.put o.dst y) (.inRegion ops rest :: k)) cs,w3,seen P fz.fn ((results fn fz.tmps).events P v' #[]),?_,hD _ _ _ (Nat.le_of_eq (hsim.size.trans h2.size.symm)) (fun e he=>(h4 e (mem_seen he)).resolve_left (by simp)),h y v' hR w3 ⟨_,_,h2⟩⟩
    have eF:((base f).at a (.inRegion ops (i :: rest) :: k)).finish y=(base f).at (a.put o.dst y) (.inRegion ops rest :: k):=by
      simp only [Frame.finish,Frame.at,ho,Option.bind_some,Act.put]
      cases o.dst <;> rfl
    obtain ⟨fnx,tmps,todo,defers,mode,kind,round⟩:=fz
    dsimp only at hzm hd hk hf hr h1 h4
    subst hzm hd hk
    show stepG P true _ (w'.at d)=_
    simp only [G,stepG,unwind,hf,h1,doReturn,GStep.after]
    rw [eF]
    rfl
theorem reaI_draw (hD:Dok X D) {id:Nat} (h:∀ t,ReaI P X Y D Stop f cs (.inRegion ops (Region.schedule (P.follows .mixedOrders) ops t) :: k) a v):ReaI P X Y D Stop f cs (.code (.region id ops true) :: k) a v:=by
  intro w hs
  have hc:∀ u:World,(choose (.order f id)).run P u = .ok (u.tape u.drawn (.order f id)) { u with drawn:=u.drawn+1 }:=fun u=>rfl
  refine .next rfl fun d=>⟨_,(w.at (d+1)),#[],?_,hD.nil (Nat.le_refl _),h (w.tape d (.order f id)) _ (hs.at (d+1))⟩
  simp only [G,base,Frame.at,stepG,stepG.exec,Bool.not_true,Bool.false_eq_true,if_false,hc]
  rfl
end
#print axioms reaI_calls
end Go.Lf
namespace Go.Proofs.YtkpcmfgeanlcnabGreatDoor
open Go.RowKit Go.Deep Go.Lf Go.Conc Go.ConcN Go.Gh
open Go.ConcR (Payload WgAt wgBlock)
theorem sfC:∃ fn,Tryz.prog.funcs[36]? = some fn:=⟨_,Tryz.func36⟩
noncomputable def gc3:Code:=gSnd (gSnd (gSnd gBody))
noncomputable def qg3:{x:Array Oper // x=gOps (gFst gc3)}:=⟨_,by simp only [gc3,gBody,gFst,gSnd,gOps,Tryz.f36,Option.getD_some];rfl⟩
noncomputable def og3:Array Oper:=qg3.1
theorem gc3_eq:gc3 = .seq (.region 3 og3 false) gTail:=by kernel_rfl
theorem ng3:og3.size=1:=by kernel_rfl
def TPc (bk bd ba:Nat) (T:Array Value):Prop:=∃ f:Nat→Value,T = #[f 0,f 1,f 2,.pointer (some ⟨bk,0,none⟩),f 4,f 5,f 6,.pointer (some ⟨bd,0,none⟩),.pointer (some ⟨ba,0,none⟩),f 9,f 10,f 11,f 12,f 13,f 14,f 15,f 16,f 17,f 18,f 19,f 20,f 21,f 22,f 23,f 24,f 25]
theorem tpc_mk {bk bd ba:Nat} {T:Array Value} (h:T = #[T.getD 0 undef,T.getD 1 undef,T.getD 2 undef,.pointer (some ⟨bk,0,none⟩),T.getD 4 undef,T.getD 5 undef,T.getD 6 undef,.pointer (some ⟨bd,0,none⟩),.pointer (some ⟨ba,0,none⟩),T.getD 9 undef,T.getD 10 undef,T.getD 11 undef,T.getD 12 undef,T.getD 13 undef,T.getD 14 undef,T.getD 15 undef,T.getD 16 undef,T.getD 17 undef,T.getD 18 undef,T.getD 19 undef,T.getD 20 undef,T.getD 21 undef,T.getD 22 undef,T.getD 23 undef,T.getD 24 undef,T.getD 25 undef]):TPc bk bd ba T:=⟨fun i=>T.getD i undef,h⟩
structure PFc (k n L:Nat) (l:List UInt8) (bk bd P F ba C:Nat) (w:World):Prop where
  vk:w.cell? ⟨bk,0,none⟩=some (.int .i64 ((k:Nat):Int))
  vd:w.cell? ⟨bd,0,none⟩=some (.slice (some ⟨P,0,none⟩) k k)
  hP:∀ j,j < k→w.cell? ⟨P,j,none⟩=some (.slice (some ⟨F,j*L,none⟩) L (k*L - j*L))
  hF:∀ i,i < k*L→w.cell? ⟨F,i,none⟩=some (.int .u8 ((bAt l i:Nat):Int))
  va:w.cell? ⟨ba,0,none⟩=some (.slice (some ⟨C,0,none⟩) n n)
  pay:w.heap[C]? = some (.cells (madeCells #[.slice none 0 0] n) 33)
  new:bk < C∧bd < C∧P < C∧F < C∧C < ba∧ba < w.heap.size
section
variable {X:Nat→Prop} {Y:Nat→Option Obj} {D:Nat→World→Array Event→Prop} {Stop:Goroutine→World→Prop} {w:World} {k n:Nat} {l:List UInt8} {vd:Value}
set_option maxHeartbeats 4000000 in
set_option maxRecDepth 100000 in
theorem columns_pre (hD:Dok X D) {cs:List Frame} (hk0:1≤k) (hkn:k≤n) (hn:n≤128) (hl:l.length≤65536) (hv:Lies w vd (u8V l))
    (hnext:∀ (bk bd P F ba C:Nat) (T:Array Value) (w1:World),TPc bk bd ba T→PFc k n (lenC k l.length) l bk bd P F ba C w1→(∀ b,b < w.heap.size→b < C)→(w.heap.size≤bk∧w.heap.size≤bd∧w.heap.size≤P∧w.heap.size≤F)→Bel w.heap.size w w1→ReaI Tryz.prog X Y D Stop 36 cs [.code gc3] ⟨T,[]⟩ w1) :
    ReaI Tryz.prog X Y D Stop 36 cs [.code gBody] ⟨#[.int .i64 ((k:Nat):Int),.int .i64 ((n:Nat):Int),vd]++Array.replicate 23 undef,[]⟩ w:=by
  unfold gBody
  simp only [Tryz.f36,Option.getD_some,Array.replicate_succ,Array.replicate_zero,List.push_toArray,List.append_toArray,List.nil_append,List.cons_append]
  have one:∀ (u:World) (x:Value) (t:TypeId),(u.alloc (.cells #[x] t)).rowIs u.heap.size t 1 (fun _=>x):=fun u x t=>World.rowIs_alloc u #[x] t (fun _=>x) (fun i hi=>by
    obtain rfl:i=0:=by simp at hi;omega
    rfl)
  refine reachI_go goodF hD (by kernel_rfl) rfl sfC fun R hR τ d' => ?_
  have hvA:Lies ({ w with tape:=τ,drawn:=d' }:World) vd (u8V l):=hv
  have hzA:({ w with tape:=τ,drawn:=d' }:World).heap.size≤w.heap.size:=Nat.le_refl _
  have hzB:w.heap.size≤({ w with tape:=τ,drawn:=d' }:World).heap.size:=Nat.le_refl _
  have hbA:Bel w.heap.size w { w with tape:=τ,drawn:=d' }:=(Bel.refl _ w).tp τ d'
  generalize ({ w with tape:=τ,drawn:=d' }:World)=wA at hvA hzA hzB hbA ⊢
  have y0:=one wA (.int .i64 ((k:Nat):Int)) 3
  have b0:Below wA.heap.size wA (wA.alloc (.cells #[.int .i64 ((k:Nat):Int)] 3)):=(Below.refl _ _).alloc (Nat.le_refl _) _
  have s0:(wA.alloc (.cells #[.int .i64 ((k:Nat):Int)] 3)).heap.size=wA.heap.size+1:=by simp
  go_wp2
  have hv0:=hvA.below b0
  have bl0:=hbA.trans (Bel.of b0) hzB
  generalize wA.alloc (.cells #[.int .i64 ((k:Nat):Int)] 3)=w0 at y0 b0 s0 hv0 bl0 ⊢
  clear b0
  refine reachI_go goodF hD (by kernel_rfl) rfl sfC fun R hR τ d' => ?_
  replace hv0:Lies ({ w0 with tape:=τ,drawn:=d' }:World) vd (u8V l):=hv0
  replace y0:({ w0 with tape:=τ,drawn:=d' }:World).rowIs wA.heap.size 3 1 (fun _=>.int .i64 ((k:Nat):Int)):=y0
  replace s0:({ w0 with tape:=τ,drawn:=d' }:World).heap.size=wA.heap.size+1:=s0
  replace bl0:=bl0.tp τ d'
  generalize ({ w0 with tape:=τ,drawn:=d' }:World)=w0 at hv0 y0 s0 bl0 ⊢
  generalize hbk:wA.heap.size=bk at *
  have c1:=cut_any k hk0 (by omega) vd l hl w0 hv0
  have g0:=y0.cell (i:=0) (by omega)
  go_wp2_with (first | (go_at_call 61;(with_reducible refine c1.mono ?_);rintro e w1 ⟨P,F,rfl,hPc⟩))
  have hlo:=hPc.lo
  have hb1:=hPc.bel
  have hPlt:=hPc.list.lt
  have hFlt:=hPc.row.lt
  have hs1:=hb1.size
  have v1:=one w1 (.slice (some ⟨P,0,none⟩) k k) 28
  have s2:(w1.alloc (.cells #[.slice (some ⟨P,0,none⟩) k k] 28)).heap.size=w1.heap.size+1:=by simp
  have ba1:Below w1.heap.size w1 (w1.alloc (.cells #[.slice (some ⟨P,0,none⟩) k k] 28)):=(Below.refl _ _).alloc (Nat.le_refl _) _
  have bl1:=(bl0.trans (Bel.of hb1) (by omega)).trans (Bel.of ba1) (by omega)
  have y1:=(y0.of_block (hb1.block bk (by omega))).of_block (ba1.block bk (by omega))
  have hls:=hPc.list.of_block (ba1.block P hPlt)
  have hrw:=hPc.row.of_block (ba1.block F hFlt)
  generalize w1.alloc (.cells #[.slice (some ⟨P,0,none⟩) k k] 28)=wB at v1 s2 bl1 y1 hls hrw ⊢
  generalize hbd:w1.heap.size=bd at *
  clear hPc hb1 c1 g0 hv0 ba1
  refine reachI_go goodF hD (by kernel_rfl) rfl sfC fun R hR τ d' => ?_
  replace hls:({ wB with tape:=τ,drawn:=d' }:World).rowIs _ _ _ _:=hls
  replace hrw:({ wB with tape:=τ,drawn:=d' }:World).rowIs _ _ _ _:=hrw
  replace y1:({ wB with tape:=τ,drawn:=d' }:World).rowIs _ _ _ _:=y1
  replace v1:({ wB with tape:=τ,drawn:=d' }:World).rowIs _ _ _ _:=v1
  replace s2:({ wB with tape:=τ,drawn:=d' }:World).heap.size=bd+1:=s2
  replace bl1:=bl1.tp τ d'
  generalize ({ wB with tape:=τ,drawn:=d' }:World)=wB at hls hrw y1 v1 s2 bl1 ⊢
  have m2:=make_lists n hn wB
  rw [s2] at m2
  generalize hZ:madeCells #[.slice none 0 0] n=Z at *
  have z2:(wB.alloc (.cells Z 33)).heap[bd+1]? = some (.cells Z 33):=by
    have:=heap_alloc_new wB (.cells Z 33)
    rwa [s2] at this
  have s3:(wB.alloc (.cells Z 33)).heap.size=bd+2:=by simp [s2]
  have v2:=v1.alloc (.cells Z 33)
  have b2:Below (bd+1) wB (wB.alloc (.cells Z 33)):=(Below.refl _ _).alloc (by omega) _
  go_wp2
  generalize wB.alloc (.cells Z 33)=w2 at z2 s3 v2 b2 ⊢
  have v3:=one w2 (.slice (some ⟨bd+1,0,none⟩) n n) 28
  rw [s3] at v3
  have b3:=b2.alloc (by omega) (.cells #[.slice (some ⟨bd+1,0,none⟩) n n] 28)
  have z3:(w2.alloc (.cells #[.slice (some ⟨bd+1,0,none⟩) n n] 28)).heap[bd+1]? = some (.cells Z 33):=(Below.heap_alloc _ _ _ (by omega)).trans z2
  have v4:=v2.alloc (.cells #[.slice (some ⟨bd+1,0,none⟩) n n] 28)
  have s4:(w2.alloc (.cells #[.slice (some ⟨bd+1,0,none⟩) n n] 28)).heap.size=bd+3:=by simp [s3]
  generalize w2.alloc (.cells #[.slice (some ⟨bd+1,0,none⟩) n n] 28)=w3 at *
  have y3:=y1.of_block (b3.block bk (by omega))
  have l3:=hls.of_block (b3.block P (by omega))
  have f3:=hrw.of_block (b3.block F (by omega))
  refine hnext bk bd P F (bd+2) (bd+1) _ w3 (tpc_mk rfl) ⟨y3.cell (i:=0) (by omega),v4.cell (i:=0) (by omega),fun j hj=>l3.cell hj,fun i hi=>f3.cell hi,v3.cell (i:=0) (by omega),by rw [hZ];exact z3,⟨by omega,by omega,by omega,by omega,by omega,by omega⟩⟩ (fun b hb=>by omega) ⟨by omega,by omega,by omega,by omega⟩ (bl1.trans (Bel.of b3) (by omega))
end
section
variable {k n L:Nat}
def pieceOf (F k L:Nat) (l:List UInt8) (j:Nat):Col:=⟨some ⟨F,j*L,none⟩,F,j*L,k*L - j*L,(List.range L).map fun m=>bAt l (j*L+m)⟩
def envK (k L:Nat) (l:List UInt8) (bk bd P F ba:Nat) (h0:Nat→Option Obj):EnvC:={ ba:=ba,bk:=bk,bd:=bd,bD:=P,oD:=0,cD:=k,cs:=(List.range k).map (pieceOf F k L l),h0:=h0 }
theorem range_get {n i j:Nat} (h:(List.range n)[i]? = some j):i < n∧j=i:=by
  obtain ⟨h1,h2⟩:=List.getElem?_eq_some_iff.1 h
  simp at h1 h2
  exact ⟨h1,h2.symm⟩
theorem envK_ok {l:List UInt8} {bk bd P F ba:Nat} {h0:Nat→Option Obj} (hk:0 < k∧k≤128) (hn:n≤128) (hL:L≤140737488355328):EnvCOk (envK k L l bk bd P F ba h0) k n L:=by
  refine ⟨hk.1,hk.2,hn,hL,by simp [envK],fun c hc => ?_⟩
  simp only [envK,List.mem_map] at hc
  obtain ⟨j,_,rfl⟩:=hc
  refine ⟨by simp [pieceOf,LenIs],fun y hy => ?_⟩
  simp only [pieceOf,List.mem_map] at hy
  obtain ⟨m,_,rfl⟩:=hy
  unfold bAt
  exact (l.getD _ 0).toNat_lt
theorem cell_alloc {W:World} {b o:Nat} {u:Value} (x:Obj) (h:W.cell? ⟨b,o,none⟩=some u):(W.alloc x).cell? ⟨b,o,none⟩=some u:=by
  have hb:=cell_lt h
  simp only [World.cell?,Below.heap_alloc _ _ _ hb] at h ⊢
  exact h
theorem sim_blockX {X:Nat→Prop} {Y:Nat→Option Obj} {w v:World} {b:Nat} {c:Array Value} {t:TypeId} {fr:Nat×Nat} (h:Sim X Y w v) (hx:¬ X b) (hb:v.heap[b]? = some (.cells c t fr)):w.heap[b]? = some (.cells c t fr):=by
  cases hy:Y b with
  | none=>rw [h.same b hx hy];exact hb
  | some o=>
    obtain ⟨o',_,h2,hg⟩:=h.gho b _ hy
    rw [hb] at h2
    cases h2
    rcases hg with ⟨_,_,_,h4⟩ | ⟨_,_,_,h4⟩ <;> cases h4
theorem sfc_start [Payload] [OldG] (hpe:Payload.ety=33) {X:Nat→Prop} {Y:Nat→Option Obj} {v3 W:World} {l:List UInt8} {lw bk bd P F ba C:Nat} (hold:∀ b,OldG.old b→b < lw) (hX:∀ b,X b→b < lw) (hge:lw≤bk∧lw≤bd∧lw≤P∧lw≤F) (hs:Sim X Y W v3) (hP:PFc k n L l bk bd P F ba C v3) {Wg:Nat} (hWg:W.heap.size=Wg+1) (hba:ba < Wg) :
    SFc Wg C k n (Wg+1) L (envK k L l bk bd P F ba (fun b=>W.heap[b]?)) (Wg+1) (gw W []):=by
  obtain ⟨n1,n2,n3,n4,n5,n6⟩:=hP.new
  have hsz:=hs.size
  have st:∀ {b o:Nat} {u:Value},v3.cell? ⟨b,o,none⟩=some u→(gw W []).cell? ⟨b,o,none⟩=some u:=fun {b o u} h=>(show W.cell? ⟨b,o,none⟩=some u from sim_cell hs h)
  have lo:∀ {b:Nat},b < Wg→b≠C→lw≤b→LoC Wg C (Wg+1) b:=fun {b} h h' hl=>⟨by omega,by omega,h',fun ho=>by have:=hold b ho;omega⟩
  have hsz1:(gw W []).heap.size=Wg+1:=hWg
  have hcs:∀ {t:Nat} {c:Col},((List.range k).map (pieceOf F k L l))[t]? = some c→t < k∧c=pieceOf F k L l t:=fun {t c} e=>by
    rw [List.getElem?_map] at e
    obtain ⟨j',hj',rfl⟩:=Option.map_eq_some_iff.1 e
    obtain ⟨h1,rfl⟩:=range_get hj'
    exact ⟨h1,rfl⟩
  refine ⟨⟨?_,by omega,by omega,fun b hb => ?_⟩,⟨madeCells #[.slice none 0 0] n,?_,size_madeCells _ _⟩,⟨lo (b:=ba) (by omega) (by omega) (by omega),lo (b:=bk) (by omega) (by omega) (by omega),lo (b:=bd) (by omega) (by omega) (by omega),lo (b:=P) (by omega) (by omega) (by omega),st hP.va,st hP.vk,st hP.vd,fun j c e => ?_,fun c hc => ?_,fun b _ _ _=>rfl⟩,⟨by omega,by omega,by omega⟩⟩
  · unfold gw
    rw [tag_book]
    exact Nat.le_refl _
  · unfold gw at hb
    rw [own_book] at hb
    cases hb
  · rw [hpe]
    show W.heap[C]? = _
    exact sim_blockX hs (fun hx=>by have:=hX C hx;omega) hP.pay
  · obtain ⟨h1,rfl⟩:=hcs e
    simp only [envK,pieceOf,Nat.zero_add]
    exact st (hP.hP j h1)
  · simp only [envK,List.mem_map,List.mem_range] at hc
    obtain ⟨t,ht,rfl⟩:=hc
    refine ⟨lo (by show F < _;omega) (by show F≠C;omega) (by show lw≤F;omega),fun _=>rfl,fun i y e => ?_⟩
    simp only [pieceOf,List.getElem?_map] at e ⊢
    obtain ⟨j',hj',rfl⟩:=Option.map_eq_some_iff.1 e
    obtain ⟨h1,rfl⟩:=range_get hj'
    refine st (hP.hF _ ?_)
    have:t*L+L≤k*L:=by rw [← Nat.succ_mul];exact Nat.mul_le_mul_right L ht
    omega
theorem cell_up {W v:World} {X:Nat→Prop} {b o:Nat} {u:Value} (hk:∀ b c t fr,¬ X b→W.heap[b]? = some (.cells c t fr)→v.heap[b]? = some (.cells c t fr)) (hb:¬ X b) (h:W.cell? ⟨b,o,none⟩=some u):v.cell? ⟨b,o,none⟩=some u:=by
  have h':=h
  unfold World.cell? at h'
  cases e:W.heap[b]? with
  | none=>simp only [e] at h';cases h'
  | some x=>
    cases x with
    | cells c t fr=>
      have:=hk b c t fr hb e
      simp only [World.cell?,e] at h
      simp only [World.cell?,this]
      exact h
    | _=>simp only [e] at h';cases h'
theorem sufc_of [Payload] [OldG] {X:Nat→Prop} {Y:Nat→Option Obj} {w2 v3 W W' v':World} {s0:Nat} {lb ids:List Nat} {l:List UInt8} {bk bd P F ba C:Nat} (hs:Sim X Y W v3) {Wg:Nat} (hWg:W.heap.size=Wg+1) (hbaW:ba < Wg) (hb:Bel w2.heap.size w2 v3) (hlow:∀ b,b < w2.heap.size→b < C) (hP:PFc k n L l bk bd P F ba C v3)
    (hk:∀ b c t fr,¬ (X b∨b=Wg)→W'.heap[b]? = some (.cells c t fr)→v'.heap[b]? = some (.cells c t fr)) (hX:∀ b,X b→b < w2.heap.size)
    (hF:SFc Wg C k n (Wg+1) L (envK k L l bk bd P F ba (fun b=>W.heap[b]?)) s0 (gw W' lb)) (hids:∀ x,x∈ids↔x < n)
    (hres:∀ x∈ids,∃ v l',Has C x v W' ∧ WPr C L ((envK k L l bk bd P F ba (fun b=>W.heap[b]?)).res k L) x v (gw W' l')∧∀ b∈l',Wg+1≤b) :
    (∃ dN:Nat→Nat,∀ t,t < n→v'.cell? ⟨C,t,none⟩=some (.slice (some ⟨dN t,0,none⟩) L L)∧v'.heap[dN t]? = some (.cells (bytesA ((envK k L l bk bd P F ba (fun b=>W.heap[b]?)).res k L t)) 5))∧(∀ {b o:Nat} {u:Value},w2.cell? ⟨b,o,none⟩=some u→v'.cell? ⟨b,o,none⟩=some u)∧v'.cell? ⟨ba,0,none⟩=some (.slice (some ⟨C,0,none⟩) n n):=by
  obtain ⟨n1,n2,n3,n4,n5,n6⟩:=hP.new
  have hsz:=hs.size
  have up:∀ {b o:Nat} {u:Value},¬ X b→b≠Wg→W'.cell? ⟨b,o,none⟩=some u→v'.cell? ⟨b,o,none⟩=some u:=fun hx hb h=>cell_up (X:=fun b=>X b∨b=Wg) hk (fun e=>e.elim hx hb) h
  have lw:∀ {b o:Nat} {u:Value},b < Wg→b≠C→v3.cell? ⟨b,o,none⟩=some u→v'.cell? ⟨b,o,none⟩=some u:=fun {b o u} h h' hc=>by
    refine up (hs.notX hc).1 (by omega) ?_
    have e1:W'.heap[b]? = W.heap[b]?:=hF.low.std b (by omega) (by omega) h'
    have e2:=sim_cell hs hc
    simp only [World.cell?,e1] at e2 ⊢
    exact e2
  have l2:∀ {b o:Nat} {u:Value},w2.cell? ⟨b,o,none⟩=some u→v'.cell? ⟨b,o,none⟩=some u:=fun {b o u} hc=>by
    have h1:b < w2.heap.size:=cell_lt hc
    have h2:=hlow _ h1
    exact lw (by have:=hb.size';omega) (by omega) ((Below.cell (p:=⟨b,o,none⟩) hb h1).trans hc)
  have hmem:∀ t,t < n→∃ N',v'.cell? ⟨C,t,none⟩=some (.slice (some ⟨N',0,none⟩) L L)∧v'.heap[N']? = some (.cells (bytesA ((envK k L l bk bd P F ba (fun b=>W.heap[b]?)).res k L t)) 5):=by
    intro t ht
    obtain ⟨v,l',h1,⟨N',rfl,hmn,_,h2⟩,hl'⟩:=hres t ((hids t).2 ht)
    have hN':=hl' N' ((mine_gw W' l' N').1 hmn)
    refine ⟨N',up (fun hx=>by have:=hX C hx;have:=hlow C this;omega) (by omega) h1,hk N' _ _ _ (fun e => ?_) h2⟩
    have e:=e.resolve_left (fun hx=>by have:=hX N' hx;have:=hlow N' this;omega)
    omega
  refine ⟨⟨fun t=>if h:t < n then (hmem t h).choose else 0,fun t ht => ?_⟩,l2,lw (by omega) (by omega) hP.va⟩
  simp only [dif_pos ht]
  exact (hmem t ht).choose_spec
end
structure Kept (w w':World):Prop where
  os:w'.os=w.os
  output:w'.output=w.output
  size:w.heap.size≤w'.heap.size
  block:∀ b,b < w.heap.size→w'.heap[b]? = w.heap[b]?
theorem Sim.agree {X:Nat→Prop} {Y:Nat→Option Obj} {w w' v v':World} (h:Sim X Y w v) (h':Sim X Y w' v') {b:Nat} (hx:¬ X b) (e:v'.heap[b]? = v.heap[b]?):w'.heap[b]? = w.heap[b]?:=by
  cases hy:Y b with
  | none=>rw [h.same b hx hy,h'.same b hx hy,e]
  | some o=>
    obtain ⟨_,h1,_⟩:=h.gho b o hy
    obtain ⟨_,h2,_⟩:=h'.gho b o hy
    rw [h1,h2]
section
variable {P:Program} {F:FuncId→Bool} {X:Nat→Prop} {Y:Nat→Option Obj} {D:Nat→World→Array Event→Prop} {Stop:Goroutine→World→Prop} {f:FuncId} {k:List Item} {cs:List Frame} {a:Act} {v:World} {ops:Array Oper} {i:Nat} {rest:List Nat} {o:Oper}
end
section
variable {X:Nat→Prop} {Y:Nat→Option Obj} {D:Nat→World→Array Event→Prop} {Stop:Goroutine→World→Prop} {v:World} {n C Wg j:Nat} {E:EnvC} {cs:List Frame} {f:Frame}
set_option maxHeartbeats 8000000 in
set_option maxRecDepth 100000 in
theorem backC (hD:Dok X D) {T:Array Value} {ops:Array Oper} (hT:TC E Wg n j T) (hba:v.cell? ⟨E.ba,0,none⟩=some (.slice (some ⟨C,0,none⟩) n n))
    (hend:∀ τ d,∀ w,SimT X Y w { v with tape:=τ,drawn:=d } → GoesI Tryz.prog D Stop (G (f.finish (.slice (some ⟨C,0,none⟩) n n)) cs) w) :
    ReaI Tryz.prog X Y D Stop 36 (f :: cs) (.inRegion ops [] :: [.code gEnd2]) ⟨T,[]⟩ v:=by
  have hD0:Dok X D:=hD
  obtain ⟨f0,rfl⟩:=hT
  refine reaI_end hD0 ?_
  unfold gEnd2
  simp only [og11,qg11]
  refine reachI_go goodF hD (by kernel_rfl) rfl sfC fun R hR τ d' => ?_
  have hb1:({ v with tape:=τ,drawn:=d' }:World).cell? ⟨E.ba,0,none⟩=some (.slice (some ⟨C,0,none⟩) n n):=hba
  have hv1:=hend τ d'
  generalize { v with tape:=τ,drawn:=d' } = v1 at hb1 hv1 ⊢
  go_wp2
  refine reaI_ret (y:=.slice (some ⟨C,0,none⟩) n n) hD rfl Tryz.func36 (fun τ d => ?_) hv1
  exact results_tmp (fn:=Tryz.f36) (t:=6) rfl _ _ _
end
end Go.Proofs.YtkpcmfgeanlcnabGreatDoor
