import Derived.Test.YtnbflnamlpodcaaGreatDoorLfN
import Derived.Test.YtnbflnamlpodcaaGreatDoorChecked
import Derived.Test.YtnbflnamlpodcaaGreatDoorSvX
import Derived.Conc.WgWords
set_option maxHeartbeats 4000000
set_option maxRecDepth 100000
namespace Go.Lf
open Go.Conc
section
variable {P:Program}{F:FuncId->Bool}{X:Nat->Prop}{Y:Nat->Option Obj}{Φ:Goroutine->World->Prop}{f:FuncId}{k:List Item}{cs:List Frame}{a:Act}{v:World}{ops:Array Oper}{i:Nat}{rest:List Nat}{o:Oper}
theorem SY:∀(n:Nat)(f:Frame)(r:List Frame)(ch:List PanicEntry)(v:World)(f':Frame)(r':List Frame)(v':World),(∀c∈r,FV P F c/\c.mode=.run)->f.mode=.panicking ch->((∃fn,P.funcs[f.fn]?=some fn)/\f.defers=[])->(∀ch,f'.mode≠.panicking ch)->
  ¬DK P n f (r++[f0]) v f' r' v'
 |0,f,r,ch,v,f',r',v',_,hm,_,hm',h=>by obtain⟨rfl,_⟩:=xR h;exact hm' _ hm
 |n+1,f,r,ch,v,f',r',v',hr,hm,⟨⟨fn,hfn⟩,hd⟩,hm',h=>by
  have ad8:f.catches P=false:=ao_;cases r with
  |nil=>
   have e:stepG P true (G f ([]++[f0])) v=.go (G (f0.raise ch) []) v #[]:=by simp only[bf,G,stepG,hm,unwind,hd,ad8,bF,aU]
   have h2:=u_ e h;cases n with
   |zero=>
    obtain⟨h3,_⟩:=xR h2;exact hm' ch (by rw[<-h3];rfl)
   |succ n=>
    obtain⟨o,v1,es,he⟩:=aaT (P:=P) ch v;exact wJ (show stepG P true (G (f0.raise ch) []) v=_ from he) h2
  |cons c r=>
   have e:stepG P true (G f (c::r++[f0])) v=.go (G (c.raise ch) (r++[f0])) v #[]:=by simp only[aW,G,stepG,hm,unwind,hd,ad8,bF,aU]
   have h2:=u_ e h;obtain⟨hc,hcm⟩:=hr c ai;have er:c.raise ch={c with mode:=.panicking ch}:=by simp[Frame.raise,hcm]
   rw[er]at h2;exact SY n {c with mode:=.panicking ch} r ch v f' r' v' (λx hx=>hr x jM) rfl ⟨hc.fn,hc.defers⟩ hm' h2
theorem abU{g:FuncId}(hg:FW P F g){anE:Array Value}(ha:anE.size<=arity P g):FV P F (Frame.enter P g anE .normal):=by obtain⟨fn1,c1,S1,g1,g2,g3,g4,g5⟩:=hg;refine⟨⟨fn1,g1⟩,rfl,rfl,rfl,S1,λx hx=>?_,DL.enter ha g5⟩;exact aqv
theorem abV(hm:P.follows .mixedOrders=true)(t:Nat):Region.schedule (P.follows .mixedOrders) ops t=Region.linearise.go .any ops ops.size t (Array.replicate ops.size false) []:=by simp only[Region.schedule,hm,anZ,aF,Region.linearise]
theorem go_succ(fuel t:Nat)(l:Array Bool)(hne:Region.ready .any ops l≠[]):∃i t',i∈Region.ready .any ops l/\Region.linearise.go .any ops (fuel+1) t l []=i::Region.linearise.go .any ops fuel t' (l.setIfInBounds i true) []:=by
 simp only[Region.linearise.go]
 change∃i t',i∈Region.ready .any ops l/\(match(Region.ready .any ops l)[t%(Region.ready .any ops l).length]? with
   |some i=>Region.linearise.go .any ops fuel (t/(Region.ready .any ops l).length) (l.setIfInBounds i true) [i]
   |none=>[].reverse)=_
 cases hi:(Region.ready .any ops l)[t%(Region.ready .any ops l).length]? with
 |none=>
  refine absurd ?_ hne;cases hr:Region.ready .any ops l with
  |nil=>rfl
  |cons x xs=>
   rw[hr,ao2]at hi;have:=gW t (show 0<(x::xs).length by simp);omega
 |some i=>
  refine⟨i,t/(Region.ready .any ops l).length,iy hi,?_⟩;simp only[];rw[linearise_go_acc,ao0,aoZ]
variable {D:Nat->World->Array Event->Prop}{Stop:Goroutine->World->Prop}{ro:Option Nat}{ds:List Deferred}{T:Array Value}
theorem FK:qR P X Y D Stop none [] f cs k T v↔sK P X Y D Stop f cs k ⟨T,[]⟩ v:=Iff.rfl
theorem vZ(hD:uo X D){k k':List Item}(h:∀w,stepG P true (G (Dn ro ds f T k) cs) w=.go (G (Dn ro ds f T k') cs) w #[])(hr:qR P X Y D Stop ro ds f cs k' T v):qR P X Y D Stop ro ds f cs k T v:=
 λw hs=>.next rfl λd=>⟨_,_,_,h (w.at d),hD.nil (ak _),hr _ (hs.at d)⟩
theorem qw(hD:uo X D){c d:Code}(hr:qR P X Y D Stop ro ds f cs (.code c::.code d::k) T v):qR P X Y D Stop ro ds f cs (.code (.seq c d)::k) T v:=vZ hD (λ_=>rfl) hr
theorem Hg(hD:uo X D)(hr:qR P X Y D Stop ro ds f cs k T v):qR P X Y D Stop ro ds f cs (.code .skip::k) T v:=vZ hD (λ_=>rfl) hr
theorem yw(hD:uo X D){id:Nat}{c:Code}(hr:qR P X Y D Stop ro ds f cs (.code c::.inBlock id::k) T v):qR P X Y D Stop ro ds f cs (.code (.block id c)::k) T v:=vZ hD (λ_=>rfl) hr
theorem Ec(hD:uo X D){id:Nat}(hr:qR P X Y D Stop ro ds f cs k T v):qR P X Y D Stop ro ds f cs (.inBlock id::k) T v:=vZ hD (λ_=>rfl) hr
theorem Hl(hD:uo X D){c:Code}(hr:qR P X Y D Stop ro ds f cs (.code c::.inLoop c::k) T v):qR P X Y D Stop ro ds f cs (.code (.loop c)::k) T v:=vZ hD (λ_=>rfl) hr
theorem Nk(hD:uo X D){c:Code}(hr:qR P X Y D Stop ro ds f cs (.code c::.inLoop c::k) T v):qR P X Y D Stop ro ds f cs (.inLoop c::k) T v:=vZ hD (λ_=>rfl) hr
theorem S9(hD:uo X D){id:Nat}{k':List Item}(he:exitTo id k=some k')(hr:qR P X Y D Stop ro ds f cs k' T v):qR P X Y D Stop ro ds f cs (.code (.exit id)::k) T v:=vZ hD (λ_=>by simp only[G,Dn,stepG,stepG.exec,he,Option.elim]) hr
theorem zA(hD:uo X D){t:Nat}{b:Bool}{c d:Code}(he:T.getD t undef=.bool b)(hr:qR P X Y D Stop ro ds f cs (.code (if b then c else d)::k) T v):qR P X Y D Stop ro ds f cs (.code (.cond (.tmp t) c d)::k) T v:=vZ hD (λ_=>by simp only[G,Dn,stepG,stepG.exec,Frame.eval,he]) hr
theorem yI(hD:uo X D){id:Nat}(hr:qR P X Y D Stop ro ds f cs (.inRegion ops (List.range ops.size)::k) T v):qR P X Y D Stop ro ds f cs (.code (.region id ops false)::k) T v:=vZ hD (λ_=>rfl) hr
theorem r_(hD:uo X D)(hr:qR P X Y D Stop ro ds f cs k T v):qR P X Y D Stop ro ds f cs (.inRegion ops []::k) T v:=vZ hD (λ_=>rfl) hr
theorem rG(hF:vX P F)(hD:uo X D){c:Code}(hc:Ed P F c=true)(hf:∃fn,P.funcs[f]?=some fn)
  (h:∀R:Act->World->Prop,(∀T' v',qR P X Y D Stop ro ds f cs k T' v'->R ⟨T',[]⟩ v')->∀τ d,c.wp P (λe a' v'=>e=.normal/\a'.defers=[]/\R a' v') ⟨T,[]⟩ {v with tape:=τ,drawn:=d}):qR P X Y D Stop ro ds f cs (.code c::k) T v:=
 abW hF hD hc hf λτ d=>h (λa' v'=>qR P X Y D Stop ro ds f cs k a'.tmps v') (λ_ _ x=>x) τ d
theorem uZ(hD:uo X D){g:FuncId}{fn:Func}{c:Code}{args:Array Operand}{ats:Array TypeId}{vs:Array Value}{n:Nat}(ho:ops[i]?=some o)(hw:Region.wanted o (yielded ops T)=true)(hop:o.op=.call {callee:=.value (.func g),args,argTypes:=ats})
  (hf:P.funcs[g]?=some fn) (hname:(fn.name== "runtime.NumGoroutine")=false) (hb:fn.body=some c) (hvs:args.map (⟨T,[]⟩:Act).eval=vs) (hn:fn.ntmps-vs.size=n)
  (h:qR P X Y D Stop none [] g (Dn none [] f T (.inRegion ops (i::rest)::k)::cs) [.code c] (vs++Array.replicate n undef) v):qR P X Y D Stop none [] f cs (.inRegion ops (i::rest)::k) T v:=by
 subst hvs hn;intro w hs;refine .next rfl λd=>?_
 obtain⟨g1,w1,es,hgo,rfl,rfl,rfl⟩:=goes_elim (goes_call (P:=P) (main:=true) (b:=base f) (a:=⟨T,[]⟩) (k:=k) (cs:=cs) (w:=w.at d) (rest:=rest) (K:=λg1 w1 es=>g1=G ((base g).at {tmps:=args.map (⟨T,[]⟩:Act).eval++Array.replicate (fn.ntmps-(args.map (⟨T,[]⟩:Act).eval).size) undef,defers:=[]} [.code c]) ((base f).at ⟨T,[]⟩ (.inRegion ops (i::rest)::k)::cs)/\w1=w.at d/\es=#[]) ho hw mX hop hf hname hb ⟨rfl,rfl,rfl⟩);exact⟨_,_,_,hgo,hD.nil (ak _),h _ (hs.at d)⟩
theorem qm(hF:vX P F)(hD:uo X D)(u:Value)(ho:ops[i]?=some o)(hw:Region.wanted o (yielded ops T)=true)(hok:ag7 P F o=true)(hrun:∀z:World,z.heap=v.heap->(execOp (⟨T,[]⟩:Act).eval o).run P z=.ok (.value u) z)
  (h:qR P X Y D Stop none [] f cs (.inRegion ops rest::k) ((⟨T,[]⟩:Act).put o.dst u).tmps v):qR P X Y D Stop none [] f cs (.inRegion ops (i::rest)::k) T v:=by
 have hd:((⟨T,[]⟩:Act).put o.dst u)=⟨((⟨T,[]⟩:Act).put o.dst u).tmps,[]⟩:=by cases o.dst<;>rfl
 refine ag8 (a:=⟨T,[]⟩) hF hD ho hw hok λτ d=>⟨_,hrun _ rfl,?_⟩
 rw[hd];exact λw ⟨τ0,d0,hs⟩=>h w ⟨τ0,d0,hs⟩
theorem Y9(hF:vX P F)(hD:uo X D){a:Addr}{u:Value}(ho:ops[i]?=some o)(hw:Region.wanted o (yielded ops T)=true)(hok:ag7 P F o=true)(hdst:o.dst=none)(hrun:∀z:World,z.heap=v.heap->(execOp (⟨T,[]⟩:Act).eval o).run P z=.ok .skip (z.setCell a u))
  (h:qR P X Y D Stop none [] f cs (.inRegion ops rest::k) T (v.setCell a u)):qR P X Y D Stop none [] f cs (.inRegion ops (i::rest)::k) T v:=by
 intro w hs;refine .next rfl λd=>?_
 have h0:=hrun {v with tape:=λp=>w.tape (d+p),drawn:=0} rfl;obtain⟨w',h1,h2,h3,h4⟩:=ad9 hF hok h0 (hs.re d 0 (λp=>w.tape (d+p)) λi q=>ai) f;refine⟨G (Dn none [] f T (.inRegion ops rest::k)) cs,w',listed P f ⟨T,[]⟩ o (w.at d),?_,hD _ _ _ h3 h4,h w' ⟨_,_,h2⟩⟩
 have hfin:((base f).at ⟨T,[]⟩ (.inRegion ops (i::rest)::k)).finish undef=Dn none [] f T (.inRegion ops rest::k):=by rw[Frame.finish_at,ho];simp only[eQ,hdst];rfl
 show stepG P true (G ((base f).at ⟨T,[]⟩ (.inRegion ops (i::rest)::k)) cs) (w.at d)=_;rw[stepG_oper ho hw,<-hfin];simp[stepG.apply,h1,G,Frame.at,base,GStep.after,listed]
theorem Oi(l:Nat)(y:Value):(Dn ro ds f T (.inRangeFunc l::k)).finish y=Dn ro ds f T (.endRangeFunc l::k):=rfl
theorem uD(ho:ops[i]?=some o)(y:Value):(Dn ro ds f T (.inRegion ops (i::rest)::k)).finish y=Dn ro ds f ((⟨T,[]⟩:Act).put o.dst y).tmps (.inRegion ops rest::k):=by simp only[Frame.finish,Dn,ho,eQ,Act.put];cases o.dst<;>rfl
end
section
variable {P:Program}{F:FuncId->Bool}{X:Nat->Prop}{Y:Nat->Option Obj}{D:Nat->World->Array Event->Prop}{Stop:Goroutine->World->Prop}
variable (P F X Y D Stop)in
structure SgC(cs:List Frame)(Q:Frame->World->Prop)(s:Sg):Prop where
 tf:FV P F s.f
 mode:s.f.mode=.run\/s.f.mode=.returning
 stack:Stack P F s.r
 QX:qH X Y s.w s.u
 law:∀τ:Nat->Question->Nat,(∀p,p<s.u.drawn->τ p=s.u.tape p)->∃n fz v',DK P n s.f (s.r++[f0]) {s.u with tape:=τ} fz [f0] v'/\fz.mode=.returning/\Q fz v'
 no:¬ru P D Stop (G s.f (s.r++cs)) s.w
theorem UL{cs:List Frame}{Q:Frame->World->Prop}(hK:∀fz v' w',FV P F fz->fz.mode=.returning->Q fz v'->qH X Y w' v'->ru P D Stop (G fz cs) w'){s:Sg}(hi:SgC P F X Y D Stop cs Q s){τ:Nat->Question->Nat}{fz:Frame}{v':World}
  (h:DK P 0 s.f (s.r++[f0]) {s.u with tape:=τ} fz [f0] v') (hm:fz.mode=.returning) (hq:Q fz v'):False:=by
 obtain⟨h1,h2,h3⟩:=xR h
 have hr:s.r=[]:=by exact aqR
 apply hi.no;have:G s.f (s.r++cs)=G fz cs:=aoz;rw[this];refine hK fz v' s.w (h1▸hi.tf) hm hq ?_;rw[<-h3];exact hi.QX.to τ s.u.drawn
theorem Pz(hF:vX P F)(hD:uo X D){cs:List Frame}{Q:Frame->World->Prop}(hK:∀fz v' w',FV P F fz->fz.mode=.returning->Q fz v'->qH X Y w' v'->ru P D Stop (G fz cs) w'){s:Sg}
  (hi:SgC P F X Y D Stop cs Q s):∃s',SgC P F X Y D Stop cs Q s'/\Ap P s s':=by
 obtain⟨d,hd⟩:∃d,∀g' w' es,stepG P true (G s.f (s.r++cs)) (s.w.at d)=.go g' w' es->D s.w.heap.size w' es->¬ru P D Stop g' w':=by
  refine iQ λhno=>hi.no (.next rfl λd=>?_)
  exact aqE
 let τ₁:Nat->Question->Nat:=λp q=>if p<s.u.drawn then s.u.tape p q else s.w.tape (d+(p-s.u.drawn)) q
 have hs:vY X Y (s.w.at d) {s.u with tape:=τ₁}:=hi.QX.re d s.u.drawn τ₁ λi q=>by
  show s.w.tape (d+i) q=if s.u.drawn+i<s.u.drawn then _ else _
  exact aqM
 have hag:∀p,p<s.u.drawn->τ₁ p=s.u.tape p:=λp hp=>by
  funext q
  exact aqA
 obtain⟨n,fz,v',hn,hzm,hq⟩:=hi.law τ₁ hag;cases n with
 |zero=>exact(UL hK hi hn hzm hq).elim
 |succ n=>
  have mk:∀(f':Frame)(r':List Frame)(u₂ w₂:World)(es:Array Event),FV P F f'->(f'.mode=.run\/f'.mode=.returning)->Stack P F r'->vY X Y w₂ u₂->Tp P (G s.f (s.r++[f0])) {s.u with tape:=τ₁} (G f' (r'++[f0])) u₂ es->
    stepG P true (G s.f (s.r++cs)) (s.w.at d)=.go (G f' (r'++cs)) w₂ es->s.w.heap.size<=w₂.heap.size->JF X w₂ es->∃s',SgC P F X Y D Stop cs Q s'/\Ap P s s':=λf' r' u₂ w₂ es h1 h2 h3 h4 h5 h6 h8 h7=>by
   obtain⟨t1,t2,t3⟩:=h5;dsimp only at t1 t2 t3;refine⟨⟨f',r',u₂,w₂⟩,⟨h1,h2,h3,h4.t,λτ hτ=>?_,hd _ _ _ h6 (hD _ _ _ h8 h7)⟩,t2,λp hp=>aop,λτ hτ=>⟨es,t3 τ λp hp1 hp2=>aov⟩⟩;dsimp only at hτ;obtain⟨n,fz,v',hn,hzm,hq⟩:=hi.law τ λp hp=>aow
   cases n with
   |zero=>exact(UL hK hi hn hzm hq).elim
   |succ n=>exact⟨n,fz,v',u_ (t3 τ λp _ hp2=>aou) hn,hzm,hq⟩
  rcases hi.mode with hm|hm
  .rcases aiq (cs:=s.r++[f0]) hF hi.tf hm hs with⟨o,v'',es',he⟩|⟨ch,v'',es',he⟩|⟨g',v'',es',w',he,htp,hs',hsz,hev,ad_⟩
   .exact aqe
   .exact absurd (u_ he hn) (SY (F:=F) n _ s.r ch _ fz [f0] v' (Hm hi.stack) rfl ⟨hi.tf.fn,hi.tf.defers⟩ (λch e=>by rw[hzm]at e;cases e))
   .cases ad_ with
    |@here f' hg hT' hm' hB=>
     subst hg;refine mk f' s.r v'' w' es' hT' hm' hi.stack hs' htp ?_ hsz hev;have:=hB [] (s.r++cs) (λ_=>rfl);rw[xU,xU]at this;exact this
    |@call e hg hTe hme hne hB=>
     subst hg;refine mk e (s.f::s.r) v'' w' es' hTe (.inl hme) ⟨⟨hi.tf,hm,hne.1,LG hi.tf hm hne⟩,hi.stack⟩ hs' htp ?_ hsz hev;have:=hB [] (s.r++cs);rw[xU]at this;exact this
    |back _ _ hr _=>rw[hm]at hr;cases hr
  .cases hr:s.r with
   |nil=>
    rw[hr]at hn;rcases Nl (c:=f0) (r:=[]) (F:=F) hi.tf hm hs with⟨o,v'',es',he⟩|⟨y,v'',es',w',he,_⟩
    .exact aqe
    .exact absurd (u_ he hn) (PD n _ fz v')
   |cons c r=>
    have hS:=hi.stack;rw[hr]at hn hS mk;rcases Nl (c:=c) (r:=r++[f0]) (F:=F) hi.tf hm hs with⟨o,v'',es',he⟩|⟨y,v'',es',w',he,htp,hs',hsz,hev,hB⟩
    .exact aqe
    .obtain⟨hTc,hmc,_⟩:=hS.1.2.2.2 y;exact mk (c.finish y) r v'' w' es' hTc (.inl hmc) hS.2 hs' htp (hB c (r++cs)) hsz hev
theorem akL(hF:vX P F)(hD:uo X D){cs:List Frame}{Q:Frame->World->Prop}{f:Frame}(hT:FV P F f)(hm:f.mode=.run){v:World}(h:∀τ d,∃n fz v',DK P n f [f0] {v with tape:=τ,drawn:=d} fz [f0] v'/\fz.mode=.returning/\Q fz v')
  {w:World} (hs:qH X Y w v) (hK:∀fz v' w',FV P F fz->fz.mode=.returning->Q fz v'->qH X Y w' v'->ru P D Stop (G fz cs) w'):ru P D Stop (G f cs) w:=by
 refine iQ λhno=>?_
 have start:SgC P F X Y D Stop cs Q ⟨f,[],{v with drawn:=0},w⟩:=⟨hT,.inl hm,trivial,hs.to v.tape 0,λτ _=>h τ 0,hno⟩
 let nx:{s//SgC P F X Y D Stop cs Q s}->{s//SgC P F X Y D Stop cs Q s}:=λs=>⟨(Pz hF hD hK s.2).choose,(Pz hF hD hK s.2).choose_spec.1⟩
 have nxs:∀s,Ap P s.1 (nx s).1:=λs=>(Pz hF hD hK s.2).choose_spec.2
 let q:Nat->{s//SgC P F X Y D Stop cs Q s}:=λn=>Nat.rec ⟨_,start⟩ (λ_ s=>nx s) n
 have qs:∀n,Ap P (q n).1 (q (n+1)).1:=λn=>nxs (q n)
 have mono:∀n m,n<=m->(q n).1.u.drawn<=(q m).1.u.drawn/\∀p,p<(q n).1.u.drawn->(q m).1.u.tape p=(q n).1.u.tape p:=by
  intro n m hnm
  induction m with
  |zero=>
   obtain rfl:n=0:=ae;exact⟨ak _,λ_ _=>rfl⟩
  |succ m ih=>
   rcases aT n (m+1)with hlt|hge
   .exact aqz
   .exact aqH
 have dec:∀p,Decidable (∃n,p<(q n).1.u.drawn):=λp=>Classical.propDecidable _
 let τ:Nat->Question->Nat:=λp=>if h:∃n,p<(q n).1.u.drawn then(q h.choose).1.u.tape p else λ_=>0
 have agree:∀n p,p<(q n).1.u.drawn->τ p=(q n).1.u.tape p:=λn p hp=>by
  have hex:∃n,p<(q n).1.u.drawn:=⟨n,hp⟩;show(if h:∃n,p<(q n).1.u.drawn then(q h.choose).1.u.tape p else λ_=>0)=_;rw[jV hex];have hc:=hex.choose_spec;rcases anK n hex.choose with hle|hle
  .exact(mono n _ hle).2 p hp
  .exact aqB
 have never:∀(m i:Nat)(fz:Frame)(v':World),DK P m (q i).1.f ((q i).1.r++[f0]) {(q i).1.u with tape:=τ} fz [f0] v'->fz.mode=.returning->Q fz v'->False:=by
  intro m
  induction m with
  |zero=>exact λi fz v' h hm hq=>UL hK (q i).2 h hm hq
  |succ m ih=>
   intro i fz v' h hm hq;obtain⟨es,he⟩:=(qs i).2.2 τ λp _ hp=>agree (i+1) p hp
   exact ih (i+1) fz v' (u_ he h) hm hq
 obtain⟨n,fz,v',hn,hm,hq⟩:=(q 0).2.law τ λp hp=>agree 0 p hp
 exact never n 0 fz v' hn hm hq
variable {f:FuncId}{k:List Item}{cs:List Frame}{a:Act}{v:World}{ops:Array Oper}{i:Nat}{rest:List Nat}{o:Oper}
theorem IY(hF:vX P F)(hD:uo X D){g:FuncId}(hg:FW P F g){args:Array Operand}{ats:Array TypeId}{vs:Array Value}{R:Value->World->Prop}(ho:ops[i]?=some o)(hw:Region.wanted o (yielded ops a.tmps)=true)(hop:o.op=.call {callee:=.value (.func g),args,argTypes:=ats})(hvs:args.map a.eval=vs)(hsz:vs.size<=arity P g)
  (hc:∀τ d,Calls P g vs {v with tape:=τ,drawn:=d} λe v'=>∃y,e=.returned y/\R y v') (h:∀y v',R y v'->sK P X Y D Stop f cs (.inRegion ops rest::k) (a.put o.dst y) v'):sK P X Y D Stop f cs (.inRegion ops (i::rest)::k) a v:=by
 subst hvs;intro w hs;obtain⟨fn1,c1,S1,g1,g2,g3,g4,g5⟩:=id hg;refine .next rfl λd=>?_
 obtain⟨g1',w1',es1,hgo,rfl,rfl,rfl⟩:=goes_elim (goes_call (P:=P) (main:=true) (b:=base f) (a:=a) (k:=k) (cs:=cs) (w:=w.at d) (rest:=rest) (K:=λg1 w1 es=>g1=G ((base g).at {tmps:=args.map a.eval++Array.replicate (fn1.ntmps-(args.map a.eval).size) undef,defers:=[]} [.code c1]) ((base f).at a (.inRegion ops (i::rest)::k)::cs)/\w1=w.at d/\es=#[]) ho hw mX hop g1 g2 g3 ⟨rfl,rfl,rfl⟩);refine⟨_,_,_,hgo,hD.nil (ak _),?_⟩;have e0:G ((base g).at {tmps:=args.map a.eval++Array.replicate (fn1.ntmps-(args.map a.eval).size) undef,defers:=[]} [.code c1]) ((base f).at a (.inRegion ops (i::rest)::k)::cs)=G (Frame.enter P g (args.map a.eval) .normal) ((base f).at a (.inRegion ops (i::rest)::k)::cs):=by rw[<-enter_at _ g1 g3]
 rw[e0];refine akL (Q:=λfr v'=>∃y,R y v'/\fr.defers=[]/\fr.kind=.normal/\∃fn,P.funcs[fr.fn]?=some fn/\(results fn fr.tmps).run P v'=.ok y v') hF hD (abU hg hsz) rfl (λτ d'=>?_) (hs.at d) (λfz v' w' hT hzm hQ hs'=>?_)
 .obtain⟨e,v',fr,⟨y,rfl,hR⟩,hcomes,hfn,hlv⟩:=hc τ d' [f0];obtain⟨n,hn⟩:Steps P (lone (Frame.enter P g (args.map a.eval) .normal) [f0] {v with tape:=τ,drawn:=d'}) (lone fr [f0] v'):=hcomes;obtain⟨hm,hd,hk,fn,hf,hr⟩:=hlv;exact⟨n,fr,v',hn,hm,y,hR,hd,hk,fn,hf,hr⟩
 .obtain⟨y,hR,hd,hk,fn,hf,hr⟩:=hQ;refine .next rfl λd=>?_
  obtain⟨τ0,d0,hs0⟩:=hs'
  have xk:vY X Y (w'.at d) {v' with tape:=λp=>w'.tape (d+(p-v'.drawn))}:=qH.re ⟨τ0,d0,hs0⟩ d v'.drawn _ λi q=>by exact arI
  obtain⟨_,_,ht3⟩:=uJ (results fn fz.tmps) v' #[] y v' ((results fn fz.tmps).events P v' #[]) (uP fn fz.tmps) hs0.nv pz;have hr2:=ht3 (λp=>w'.tape (d+(p-v'.drawn))) (λp h1 h2=>absurd h2 ae);obtain⟨w3,h1,h2,h3,h4⟩:=uA (results fn fz.tmps) (w'.at d) _ #[] y _ _ (uP fn fz.tmps) xk hr2;refine⟨G ((base f).at (a.put o.dst y) (.inRegion ops rest::k)) cs,w3,seen P fz.fn ((results fn fz.tmps).events P v' #[]),?_,hD _ _ _ (dS (xk.size.trans h2.size.symm)) (λe he=>(h4 e (mem_seen he)).resolve_left ai),h y v' hR w3 ⟨_,_,h2⟩⟩
  have eF:((base f).at a (.inRegion ops (i::rest)::k)).finish y=(base f).at (a.put o.dst y) (.inRegion ops rest::k):=by simp only[Frame.finish,Frame.at,ho,eQ,Act.put];cases o.dst<;>rfl
  obtain⟨fnx,tmps,todo,defers,mode,kind,round⟩:=fz;dsimp only at hzm hd hk hf hr h1 h4;subst hzm hd hk;show stepG P true _ (w'.at d)=_;simp only[G,stepG,unwind,hf,h1,doReturn,GStep.after];rw[eF];rfl
theorem abX(hD:uo X D){id:Nat}(h:∀t,sK P X Y D Stop f cs (.inRegion ops (Region.schedule (P.follows .mixedOrders) ops t)::k) a v):sK P X Y D Stop f cs (.code (.region id ops true)::k) a v:=by
 intro w hs;have hc:∀u:World,(choose (.order f id)).run P u=.ok (u.tape u.drawn (.order f id)) {u with drawn:=u.drawn+1}:=λu=>rfl
 refine .next rfl λd=>⟨_,(w.at (d+1)),#[],?_,hD.nil (ak _),h (w.tape d (.order f id)) _ (hs.at (d+1))⟩
 simp only[G,base,Frame.at,stepG,stepG.exec,iD,bF,aU,hc];rfl
end
#print axioms IY
end Go.Lf
namespace Go.Proofs.Y
abbrev link:Go.Conc.Lib.WgLink:={add:=48,done:=50,wait:=53,relMerge:=78,disable:=79,enable:=80,inBubble:=81,associate:=82,fatal:=83,uOr:=84,uAdd:=85,raceRead:=86,uLoad:=87,uStore:=88,disassociate:=89,semrelease:=90,acquire:=94,isAssociated:=95,uCas:=96,raceWrite:=97,semacquire:=98,orU64:=114,addU64:=115,loadU64:=116,storeU64:=117,casU64:=120,tWgP:=163,tUP:=148,tAssoc:=165,tWg:=112,tAU:=109,tU64:=64,tUint:=161,tU32:=110,tPU32:=169,tPAU:=204,tPU64:=206,tNoCopy:=105,tANoCopy:=106,tAlign64:=107}
theorem wgLib:Go.Conc.Lib.WgLib Tryz.prog link:=
 ⟨Tryz.func48,Tryz.func50,Tryz.func53,Tryz.func78,Tryz.func79,Tryz.func80,Tryz.func81,Tryz.func82,Tryz.func83,Tryz.func84,Tryz.func85,Tryz.func86,Tryz.func87,Tryz.func88,Tryz.func89,Tryz.func90,Tryz.func94,Tryz.func95,Tryz.func96,Tryz.func97,Tryz.func98,Tryz.func114,Tryz.func115,Tryz.func116,Tryz.func117,Tryz.func120,Tryz.underlying163,Tryz.runUnderlying163,Tryz.sizeOf163,Tryz.isAgg163,Tryz.zeroValue163,Tryz.underlying148,Tryz.runUnderlying148,Tryz.sizeOf148,Tryz.isAgg148,Tryz.zeroValue148,Tryz.underlying165,Tryz.runUnderlying165,Tryz.sizeOf165,Tryz.isAgg165,Tryz.zeroValue165,Tryz.underlying112,Tryz.runUnderlying112,Tryz.sizeOf112,Tryz.isAgg112,Tryz.zeroValue112,Tryz.underlying109,Tryz.runUnderlying109,Tryz.sizeOf109,Tryz.isAgg109,Tryz.zeroValue109,Tryz.underlying64,Tryz.runUnderlying64,Tryz.sizeOf64,Tryz.isAgg64,Tryz.zeroValue64,Tryz.underlying161,Tryz.runUnderlying161,Tryz.sizeOf161,Tryz.isAgg161,Tryz.zeroValue161,Tryz.underlying110,Tryz.runUnderlying110,Tryz.sizeOf110,Tryz.isAgg110,Tryz.zeroValue110,Tryz.underlying169,Tryz.runUnderlying169,Tryz.sizeOf169,Tryz.isAgg169,Tryz.zeroValue169,Tryz.underlying204,Tryz.runUnderlying204,Tryz.sizeOf204,Tryz.isAgg204,Tryz.zeroValue204,Tryz.underlying206,Tryz.runUnderlying206,Tryz.sizeOf206,Tryz.isAgg206,Tryz.zeroValue206,Tryz.underlying0,Tryz.runUnderlying0,Tryz.sizeOf0,Tryz.isAgg0,Tryz.zeroValue0,Tryz.underlying3,Tryz.runUnderlying3,Tryz.sizeOf3,Tryz.isAgg3,Tryz.zeroValue3,Tryz.underlying4,Tryz.runUnderlying4,Tryz.sizeOf4,Tryz.isAgg4,Tryz.zeroValue4,Tryz.underlying9,Tryz.runUnderlying9,Tryz.sizeOf9,Tryz.isAgg9,Tryz.zeroValue9,Tryz.underlying20,Tryz.runUnderlying20,Tryz.sizeOf20,Tryz.isAgg20,Tryz.zeroValue20,Tryz.underlying21,Tryz.runUnderlying21,Tryz.sizeOf21,Tryz.isAgg21,Tryz.zeroValue21,ag,ag⟩
end Go.Proofs.Y
namespace Go.Proofs.Y
open Go.Conc Go.ConcN Go.RowKit Go.Gh Go.Conc.Lib Go.ConcR.Gen Go.ConcN.Gen
open Go.ConcR (Payload)
theorem zx{P:Program}{main:Bool}{R:World->World->Prop}{D:World->World->Array Event->Prop}{fn:FuncId}{ops:Array Oper}{Q:Exit->Act->World->Prop}{S:World->Prop}{nf lst i k:Nat}{l:Array Bool}{a:Act}{w:World}{o:Oper}
  (hr:Region.ready .any ops l=[i]) (ho:ops[i]?=some o) (hw:Region.wanted o (yielded ops a.tmps)=true)
  (h:∀w₁,R w w₁->∀K:Act->World->Prop,(∀a' w',(D w₁ w' (listed P fn a o w₁)/\(i≠lst->S w')/\AnyX P main R D fn ops nf Q S lst k (l.setIfInBounds i true) a' w')->K a' w')->uponK o a K ((execOp a.eval o).run P w₁)):AnyX P main R D fn ops nf Q S lst (k+1) l a w:=
 DF hr ⟨o,ho,.inl ⟨hw,λw₁ r=>h w₁ r _ λ_ _ x=>x⟩⟩
section
variable [Payload][qN]{main:Bool}{Wg C n B:Nat}{Cl:Nat->Prop}
omit [Payload]in
theorem Bs.yu{w:World}(h:Bs C B w){b:Nat}(hb:Og Wg C B w b):b<w.heap.size:=hb.elim (h.lt ·) λx=>aN x.1 h.hB
omit [qN]in
theorem Pv{w:World}(hp:PayAt C n w){i:Nat}(hi:i<n)(v:Value):Has C i v (w.setCell ⟨C,i,none⟩ v):=by obtain⟨arr,h1,h2⟩:=hp;simp[Has,World.cell?,heap_set w h1,h2,hi]
theorem UK{w:World}(hp:PayAt C n w)(hC:C<w.heap.size){i:Nat}(hi:Cl i)(v:Value){es:Array Event}(he:∀e∈es,∃wr,e=⟨.cell ⟨C,i,none⟩,wr,false⟩):Dg Wg C n B Cl w (w.setCell ⟨C,i,none⟩ v) es:=by
 obtain⟨arr,h1,h2⟩:=hp;refine⟨dJ,rfl,rfl,λb _ _ hb=>bG _ _ _ _ hb,λj hj=>?_,λ_=>⟨_,heap_set w h1 i v,iT⟩,λe he'=>?_⟩
 .simp only[World.cell?,heap_set w h1,h1];rw[jh (λe:i=j=>hj (e▸hi))]
 .obtain⟨wr,rfl⟩:=he e he';exact⟨_,wr,rfl,by rw[rZ];exact hC,.inr (.inr (.inl ⟨i,rfl,hi⟩))⟩
def Q9(C L:Nat)(res:Nat->List Nat)(idx:Nat)(v:Value)(w:World):Prop:=∃N,v=.slice (some ⟨N,0,none⟩) L L/\Mine w N/\N≠C/\w.heap[N]?=some (.cells (sD (res idx)) 5)
omit [qN]in
theorem Q9.rely{w w₁:World}{L idx:Nat}{res:Nat->List Nat}{v:Value}(h:Q9 C L res idx v w)(r:Ro Wg C n B Cl w w₁):Q9 C L res idx v w₁:=by obtain⟨N,h1,h2,h3,h4⟩:=h;exact⟨N,h1,(r.wQ _).2 h2,h3,(r.mine _ h2).trans h4⟩
structure WD1(C L:Nat)(res:Nat->List Nat)(idx:Nat)(v:Value)(w:World):Prop where
 wp:Q9 C L res idx v w
 has:Has C idx v w
omit [qN]in
theorem WD1.rely{w w₁:World}{L idx:Nat}{res:Nat->List Nat}{v:Value}(h:WD1 C L res idx v w)(r:Ro Wg C n B (· =idx) w w₁):WD1 C L res idx v w₁:=⟨h.wp.rely r,(r.cell idx rfl).trans h.has⟩
end
section
variable [Payload][qN]{main:Bool}{Wg C n B:Nat}{Cl:Nat->Prop}
structure Cap where
 ba:Nat
 bj:Nat
 bv:Nat
 bW:Nat
 oW:Nat
 cW:Nat
 br:Nat
 oR:Nat
 cR:Nat
 bd:Nat
 bD:Nat
 oD:Nat
 cD:Nat
structure WIn(Wg C n B:Nat)(c:Cap)(k L idx:Nat)(ws:List Nat)(cs:List Ph)(w:World):Prop where
 bs:Bs C B w
 pay:PayAt C n w
 ra:Og Wg C B w c.ba
 va:w.cell? ⟨c.ba,0,none⟩=some (.slice (some ⟨C,0,none⟩) k k)
 rj:Og Wg C B w c.bj
 vj:w.cell? ⟨c.bj,0,none⟩=some (.int .i64 ((idx:Nat):Int))
 rv:Og Wg C B w c.bv
 vv:w.cell? ⟨c.bv,0,none⟩=some (.slice (some ⟨c.bW,c.oW,none⟩) k c.cW)
 rW:Og Wg C B w c.bW
 vW:w.cell? ⟨c.bW,c.oW+idx,none⟩=some (.slice (some ⟨c.br,c.oR,none⟩) k c.cR)
 rd:Og Wg C B w c.bd
 vd:w.cell? ⟨c.bd,0,none⟩=some (.slice (some ⟨c.bD,c.oD,none⟩) k c.cD)
 cin:CIn Wg C B c.br c.oR c.bD c.oD L ws cs w
theorem WIn.ex{w w₁:World}{c:Cap}{k L idx:Nat}{ws:List Nat}{cs:List Ph}(h:WIn Wg C n B c k L idx ws cs w)(hb:Bs C B w₁)(r:Ex Wg C n B Cl (λ_=>False) w w₁):WIn Wg C n B c k L idx ws cs w₁:=by
 have st:∀{b:Nat},Og Wg C B w b->∀o,w₁.cell? ⟨b,o,none⟩=w.cell? ⟨b,o,none⟩:=λhb o=>aoa
 exact⟨hb,r.pay h.pay,r.We h.ra,(st h.ra _).trans h.va,r.We h.rj,(st h.rj _).trans h.vj,r.We h.rv,(st h.rv _).trans h.vv,r.We h.rW,(st h.rW _).trans h.vW,r.We h.rd,(st h.rd _).trans h.vd,h.cin.ex r⟩
theorem WIn.rely{w w₁:World}{c:Cap}{k L idx:Nat}{ws:List Nat}{cs:List Ph}(h:WIn Wg C n B c k L idx ws cs w)(r:Ro Wg C n B Cl w w₁):WIn Wg C n B c k L idx ws cs w₁:=h.ex (h.bs.rely r) r.ex
def w0:Frame:=baseD 111
noncomputable def UM:Frame:={(default:Frame)with fn:=Tryz.prog.funcs.size,defers:=[],mode:=.panicking [goexitEntry]}
noncomputable def aea:Code:=Tryz.f111.body.getD .skip
def caught(Wg:Nat)(c:Cap):Array Value:=#[.pointer (some ⟨Wg,0,none⟩),.pointer (some ⟨c.bv,0,none⟩),.pointer (some ⟨c.bj,0,none⟩),.pointer (some ⟨c.bd,0,none⟩),.pointer (some ⟨c.ba,0,none⟩)]
def Wu(Wg:Nat)(c:Cap):Deferred:={target:=.fn (.func 111) (caught Wg c),args:=#[]}
omit [Payload][qN]in
theorem ai3(c:Cap)(w:World):stepG Tryz.prog false (born Tryz.prog (Wu Wg c)) w=.go (G (w0.at ⟨caught Wg c++Array.replicate 9 undef,[]⟩ [.code aea]) [UM]) w #[]:=by simp[born,Wu,caught,stepG,unwind,callDeferred,invoke,callFunc,Tryz.func111,Tryz.f111,seen,GStep.after,G,Frame.enter,Frame.at,w0,baseD,UM,aea]
omit [Payload][qN]in
theorem ag9(T:Array Value):QuitsD Tryz.prog 2 0 (G {w0.at ⟨T,[]⟩ []with mode:=.returning} [UM]):=by
 refine QuitsD.ctl (g':=G UM []) rfl (λw=>?_) ?_
 .simp[G,stepG,unwind,doReturn,results,Frame.at,w0,baseD,UM,Tryz.func111,Tryz.f111,seen,GStep.after,goexitEntry]
 refine QuitsD.ctl (g':={G UM []with status:=.finished}) rfl (λw=>?_) ⟨rfl,rfl⟩;simp[G,stepG,unwind,UM,goexitEntry,Frame.catches];rfl
theorem works(k L:Nat)(hk0:0<k)(hk:k<=128)(hL:L<=140737488355328)(idx:Nat)(hidx:idx<k):∃m,∀(w:World)(c:Cap)(ws:List Nat)(cs:List Ph)(res:Nat->List Nat),AL ws k->cs.length=k->(∀x∈ws,x<256)->(∀c∈cs,AL c.ys L/\∀y∈c.ys,y<256)->
  res idx=comb (BZ ws cs) (List.replicate L 0)->WIn Wg C k B c k L idx ws cs w->Wk Tryz.prog link.tWg Wg C k B (Q9 C L res) idx m (born Tryz.prog (Wu Wg c)) w:=by
 obtain⟨q,hq⟩:=SX (main:=false) (Wg:=Wg) (C:=C) (n:=k) (B:=B) (Cl:=(· =idx)) k L hk0 hk hL;refine⟨?m,λw c ws cs res hlw hlc hws hcs hres hF=>?_⟩
 case m=>exact(3+(10*(q+3)+1+1))+1+1+1+1+1
 have hiI:(idx:Int)<(k:Int):=ae;have T:=p_ (Wg:=Wg) (C:=C) (n:=k) (B:=B) (Cl:=(· =idx));unfold Wk;refine ay rfl λw₁ h₁=>?_
 replace hF:=hF.rely h₁;clear h₁;rw[ai3];refine⟨T.idle _,?_⟩;simp only[caught,aea,Tryz.f111,aB,cu,b_,bV,bY,bf,aW];refine ay rfl λw₁ h₁=>?_
 replace hF:=hF.rely h₁;clear h₁;rw[aC];refine⟨T.idle _,?_⟩;refine ay rfl λw₁ h₁=>?_
 replace hF:=hF.rely h₁;clear h₁;rw[cO];refine⟨T.idle _,?_⟩;simp only[dU,bM,dA,aS,List.range,List.range.loop];refine ay rfl λw₁ h₁=>?_
 replace hF:=hF.rely h₁;clear h₁;rw[stepG_defer rfl rfl au rfl];refine⟨T.idle _,?_⟩;walk_nrm;refine ay rfl λw₁ h₁=>?_
 replace hF:=hF.rely h₁;clear h₁;rw[aH];refine⟨T.idle _,?_⟩;refine wpC_goes (m:=3) (Q:=λe a' w'=>e=.normal/\a'.defers=[dcall 50 #[.pointer (some ⟨Wg,0,none⟩)]]/\∃v,WD1 C L res idx v w') (yR T aaN (S:=WIn Wg C k B c k L idx ws cs) (lst:=9) (nf:=q) ag (λw₁ h₁=>?_)) rfl au ?_
 .replace hF:WIn Wg C k B c k L idx ws cs {w₁ with drawn:=w₁.drawn+1}:=by
   have:=hF.rely h₁;exact⟨⟨this.bs.tg,this.bs.hC,this.bs.hB,this.bs.ow⟩,this.pay,this.ra,this.va,this.rj,this.vj,this.rv,this.vv,this.rW,this.vW,this.rd,this.vd,⟨this.cin.rw,this.cin.lw,this.cin.rc,this.cin.lc,this.cin.hw,this.cin.hc,this.cin.wF⟩⟩
  clear h₁;have hSR:∀x y,WIn Wg C k B c k L idx ws cs x->Ro Wg C k B (· =idx) x y->WIn Wg C k B c k L idx ws cs y:=λ_ _ h r=>h.rely r
  have hQR:∀(a:Act)(x y:World),(Exit.normal=.normal/\a.defers=[dcall 50 #[.pointer (some ⟨Wg,0,none⟩)]]/\∃v,WD1 C L res idx v x)->Ro Wg C k B (· =idx) x y->(Exit.normal=.normal/\a.defers=[dcall 50 #[.pointer (some ⟨Wg,0,none⟩)]]/\∃v,WD1 C L res idx v y):=λa x y ⟨h1,h2,v,h3⟩ r=>⟨h1,h2,v,h3.rely r⟩
  generalize{w₁ with drawn:=w₁.drawn+1}=w2 at hF⊢;simp only[dU,bM,dA,Nat.reduceAdd,aS]
  (co_applyP rE T hSR hQR (i:=0) rfl ag ag ag ag ag (.inl ⟨ax,λ_ hw=>⟨run_eq_of ?Wl,?Pm⟩⟩) hF ?adT
   case Wl=>
    intro Kq hKq
    (have h1:=hw.va)
    exact aqc
   case Pm=>
    (have h1:=hw.va)
    (refine su hw.ra (hw.bs.yu hw.ra) ?_;co_evs (exact⟨_,rfl,rfl⟩))
   try walk_nrm)
  (co_applyP rE T hSR hQR (i:=1) rfl ag ag ag ag ag (.inl ⟨ax,λ_ hw=>⟨run_eq_of ?Wn,?Pn⟩⟩) hF ?adU
   case Wn=>
    intro Kq hKq
    (have h1:=hw.vj)
    exact aqc
   case Pn=>
    (have h1:=hw.vj)
    (refine su hw.rj (hw.bs.yu hw.rj) ?_;co_evs (exact⟨_,rfl,rfl⟩))
   try walk_nrm)
  (co_applyP rE T hSR hQR (i:=2) rfl ag ag ag ag ag (.inl ⟨ax,λ_ hw=>⟨run_eq_of ?Wp,?Po⟩⟩) hF ?adV
   case Wp=>
    intro Kq hKq
    (have h1:=hw.vv)
    exact aqc
   case Po=>
    (have h1:=hw.vv)
    (refine su hw.rv (hw.bs.yu hw.rv) ?_;co_evs (exact⟨_,rfl,rfl⟩))
   try walk_nrm)
  (co_applyP rE T hSR hQR (i:=3) rfl ag ag ag ag ag (.inl ⟨ax,λ_ hw=>⟨run_eq_of ?Wq,?Pq⟩⟩) hF ?adW
   case Wq=>
    intro Kq hKq
    (have h1:=hw.vj)
    exact aqc
   case Pq=>
    (have h1:=hw.vj)
    (refine su hw.rj (hw.bs.yu hw.rj) ?_;co_evs (exact⟨_,rfl,rfl⟩))
   try walk_nrm)
  (co_applyP rE T hSR hQR (i:=4) rfl ag ag ag ag ag (.inl ⟨ax,λ_ hw=>⟨run_eq_of ?adX,?Y8⟩⟩) hF ?ai0
   case adX=>
    intro Kq hKq
    (skip)
    exact aqc
   case Y8=>
    (skip)
    (co_still T)
   try walk_nrm)
  (co_applyP rE T hSR hQR (i:=5) rfl ag ag ag ag ag (.inl ⟨ax,λ_ hw=>⟨run_eq_of ?akM,?ai4⟩⟩) hF ?al9
   case akM=>
    intro Kq hKq
    (have h1:=hw.vW)
    exact aqc
   case ai4=>
    (have h1:=hw.vW)
    (refine su hw.rW (hw.bs.yu hw.rW) ?_;co_evs (exact⟨_,rfl,rfl⟩))
   try walk_nrm)
  (co_applyP rE T hSR hQR (i:=6) rfl ag ag ag ag ag (.inl ⟨ax,λ_ hw=>⟨run_eq_of ?akN,?ai5⟩⟩) hF ?al_
   case akN=>
    intro Kq hKq
    (have h1:=hw.vd)
    exact aqc
   case ai5=>
    (have h1:=hw.vd)
    (refine su hw.rd (hw.bs.yu hw.rd) ?_;co_evs (exact⟨_,rfl,rfl⟩))
   try walk_nrm)
  refine DF (i:=7) ag ⟨_,rfl,.inr (.inl ⟨ax,_,_,_,(λv w'=>∃N,v=.slice (some ⟨N,0,none⟩) L L/\CG Wg C k B (· =idx) w2 N (comb (BZ ws cs) (List.replicate L 0)) w'),rfl,by walk_nrm;exact hq w2 c.br c.oR c.cR c.bD c.oD c.cD ws cs hlw hlc hws hcs hF.bs hF.cin,?_⟩)⟩;rintro v w' ⟨N,rfl,hg⟩;have hN:N≠C:=apW;replace hF:=hF.ex hg.bs hg.ex;have hwp:Q9 C L res idx (.slice (some ⟨N,0,none⟩) L L) w':=⟨N,rfl,hg.mn,hN,by rw[hres];exact hg.hx⟩;clear hg;refine⟨λ_=>hF,?_⟩;walk_nrm;refine zx (i:=8) ag rfl ax (λw₁ hR K hK=>?_);replace hF:=hF.rely hR;replace hwp:=hwp.rely hR;clear hR;go_simp;refine hK _ _ ⟨?_,λ_=>hF,?_⟩
  .co_still T
  clear hK K;walk_nrm;refine zx (i:=9) ag rfl ax (λw₁ hR K hK=>?_);replace hF:=hF.rely hR;replace hwp:=hwp.rely hR;clear hR
  obtain⟨u,hu1,hu2⟩:∃u,w₁.cell? ⟨C,idx,none⟩=some u/\w₁.frozen? ⟨C,idx,none⟩=false:=by exact ard
  go_simp
  try(unfold stored;go_simp)
  refine hK _ _ ⟨?_,λh=>absurd rfl h,?_⟩
  .refine UK (Cl:=(· =idx)) hF.pay hF.bs.hC (i:=idx) rfl _ ?_
   co_evs (exact⟨_,rfl⟩)
  clear hK K;walk_nrm;refine Hf ag ⟨rfl,rfl,.slice (some ⟨N,0,none⟩) L L,⟨N,rfl,?_,hN,?_⟩,Pv hF.pay hidx _⟩ _
  .exact arp
  .exact ars
 .rintro e a' w' ⟨rfl,hd,v,hk⟩;show Goes _ _ _ _ _ 3 (G (w0.at a' []) [UM]) w';refine ay rfl λw₁ h₁=>?_
  replace hk:=hk.rely h₁;clear h₁;rw[stepG_end];refine⟨T.idle _,?_⟩;refine ay rfl λw₁ h₁=>?_
  replace hk:=hk.rely h₁;clear h₁;rw[stepG_unwind_enter hd Tryz.func50 (nm_done link) rfl];refine⟨T.idle _,?_⟩;refine bI λw₁ h₁=>?_
  replace hk:=hk.rely h₁;clear h₁;refine⟨rfl,v,hk.wp,hk.has,λW h1 h2=>?_⟩;have hA:=@doneN _ link Tryz.prog wgLib VR VR Wg C k 0 (idx+1) v;have:=hA (c:={w0.at ⟨a'.tmps,[]⟩ []with mode:=.returning}) (cs:=[UM]) (qt:=2) rfl (ag9 a'.tmps) W ⟨h1,iT⟩;exact this
