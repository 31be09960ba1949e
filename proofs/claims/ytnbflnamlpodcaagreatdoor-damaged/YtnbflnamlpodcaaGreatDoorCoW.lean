import Derived.Test.YtnbflnamlpodcaaGreatDoorLfN
import Derived.Test.YtnbflnamlpodcaaGreatDoorChecked
import Derived.Test.YtnbflnamlpodcaaGreatDoorSvX
import Derived.Conc.WgWords
set_option maxHeartbeats 4000000
set_option maxRecDepth 100000
namespace Go.Lf
open Go.Conc
section
variable {P:Program}{F:FuncId->Bool}{X:Nat->Prop}{Y:Nat->Option Obj}{Φ:Goroutine->World->Prop}{f:FuncId}{k:List Item}{cs:List Frame}{a:Act}{v:World}{ops:Array Oper}{i:Nat}{rest:List Nat}{o:Oper}
theorem Xu:∀(n:Nat)(f:Frame)(r:List Frame)(ch:List PanicEntry)(v:World)(f':Frame)(r':List Frame)(v':World),(∀c∈r,I9 P F c/\c.mode=.run)->f.mode=.panicking ch->((∃fn,P.funcs[f.fn]?=some fn)/\f.defers=[])->(∀ch,f'.mode≠.panicking ch)->
  ¬F7 P n f (r++[f0]) v f' r' v'
 |0,f,r,ch,v,f',r',v',_,hm,_,VB,h=>by obtain⟨rfl,_⟩:=zg h;exact VB _ hm
 |n+1,f,r,ch,v,f',r',v',hr,hm,⟨⟨fn,Nr⟩,hd⟩,VB,h=>by
  have ahU:f.catches P=false:=avq;cases r with
  |nil=>
   have e:stepG P true (G f ([]++[f0])) v=.go (G (f0.raise ch) []) v #[]:=by simp only[bg,G,stepG,hm,unwind,hd,ahU,bu,aU]
   have h2:=wV e h;cases n with
   |zero=>
    obtain⟨h3,_⟩:=zg h2;exact VB ch (by rw[<-h3];rfl)
   |succ n=>
    obtain⟨o,v1,es,he⟩:=aeH (P:=P) ch v;exact xX (show stepG P true (G (f0.raise ch) []) v=_ from he) h2
  |cons c r=>
   have e:stepG P true (G f (c::r++[f0])) v=.go (G (c.raise ch) (r++[f0])) v #[]:=by simp only[aV,G,stepG,hm,unwind,hd,ahU,bu,aU]
   have h2:=wV e h;obtain⟨hc,sF⟩:=hr c ai;have er:c.raise ch={c with mode:=.panicking ch}:=by simp[Frame.raise,sF]
   rw[er]at h2;exact Xu n {c with mode:=.panicking ch} r ch v f' r' v' (λx hx=>hr x jB) rfl ⟨hc.fn,hc.defers⟩ VB h2
theorem afK{g:FuncId}(hg:I_ P F g){atO:Array Value}(ha:atO.size<=arity P g):I9 P F (Frame.enter P g atO .normal):=by obtain⟨fn1,c1,S1,g1,g2,g3,g4,g5⟩:=hg;refine⟨⟨fn1,g1⟩,rfl,rfl,rfl,S1,λx hx=>?_,F8.enter ha g5⟩;exact axe
theorem afL(hm:P.follows .mixedOrders=true)(t:Nat):Region.schedule (P.follows .mixedOrders) ops t=Region.linearise.go .any ops ops.size t (Array.replicate ops.size false) []:=by simp only[Region.schedule,hm,auk,aF,Region.linearise]
theorem go_succ(fuel t:Nat)(l:Array Bool)(hne:Region.ready .any ops l≠[]):∃i t',i∈Region.ready .any ops l/\Region.linearise.go .any ops (fuel+1) t l []=i::Region.linearise.go .any ops fuel t' (l.setIfInBounds i true) []:=by
 simp only[Region.linearise.go]
 change∃i t',i∈Region.ready .any ops l/\(match(Region.ready .any ops l)[t%(Region.ready .any ops l).length]? with
   |some i=>Region.linearise.go .any ops fuel (t/(Region.ready .any ops l).length) (l.setIfInBounds i true) [i]
   |none=>[].reverse)=_
 cases hi:(Region.ready .any ops l)[t%(Region.ready .any ops l).length]? with
 |none=>
  refine absurd ?_ hne;cases hr:Region.ready .any ops l with
  |nil=>rfl
  |cons x xs=>
   rw[hr,avk]at hi;have:=fJ t (show 0<(x::xs).length by simp);omega
 |some i=>
  refine⟨i,t/(Region.ready .any ops l).length,iR hi,?_⟩;simp only[];rw[linearise_go_acc,avi,avh]
variable {D:Nat->World->Array Event->Prop}{Stop:Goroutine->World->Prop}{ro:Option Nat}{ds:List Deferred}{T:Array Value}
theorem IQ:rD P X Y D Stop none [] f cs k T v↔uh P X Y D Stop f cs k ⟨T,[]⟩ v:=Iff.rfl
theorem xJ(hD:vw X D){k k':List Item}(h:∀w,stepG P true (G (Dn ro ds f T k) cs) w=.go (G (Dn ro ds f T k') cs) w #[])(hr:rD P X Y D Stop ro ds f cs k' T v):rD P X Y D Stop ro ds f cs k T v:=
 λw hs=>.next rfl λd=>⟨_,_,_,h (w.at d),hD.nil (ak _),hr _ (hs.at d)⟩
theorem qx(hD:vw X D){c d:Code}(hr:rD P X Y D Stop ro ds f cs (.code c::.code d::k) T v):rD P X Y D Stop ro ds f cs (.code (.seq c d)::k) T v:=xJ hD (λ_=>rfl) hr
theorem F9(hD:vw X D)(hr:rD P X Y D Stop ro ds f cs k T v):rD P X Y D Stop ro ds f cs (.code .skip::k) T v:=xJ hD (λ_=>rfl) hr
theorem zJ(hD:vw X D){id:Nat}{c:Code}(hr:rD P X Y D Stop ro ds f cs (.code c::.inBlock id::k) T v):rD P X Y D Stop ro ds f cs (.code (.block id c)::k) T v:=xJ hD (λ_=>rfl) hr
theorem GN(hD:vw X D){id:Nat}(hr:rD P X Y D Stop ro ds f cs k T v):rD P X Y D Stop ro ds f cs (.inBlock id::k) T v:=xJ hD (λ_=>rfl) hr
theorem J3(hD:vw X D){c:Code}(hr:rD P X Y D Stop ro ds f cs (.code c::.inLoop c::k) T v):rD P X Y D Stop ro ds f cs (.code (.loop c)::k) T v:=xJ hD (λ_=>rfl) hr
theorem QK(hD:vw X D){c:Code}(hr:rD P X Y D Stop ro ds f cs (.code c::.inLoop c::k) T v):rD P X Y D Stop ro ds f cs (.inLoop c::k) T v:=xJ hD (λ_=>rfl) hr
theorem Xv(hD:vw X D){id:Nat}{k':List Item}(he:exitTo id k=some k')(hr:rD P X Y D Stop ro ds f cs k' T v):rD P X Y D Stop ro ds f cs (.code (.exit id)::k) T v:=xJ hD (λ_=>by simp only[G,Dn,stepG,stepG.exec,he,Option.elim]) hr
theorem yI(hD:vw X D){t:Nat}{b:Bool}{c d:Code}(he:T.getD t undef=.bool b)(hr:rD P X Y D Stop ro ds f cs (.code (if b then c else d)::k) T v):rD P X Y D Stop ro ds f cs (.code (.cond (.tmp t) c d)::k) T v:=xJ hD (λ_=>by simp only[G,Dn,stepG,stepG.exec,Frame.eval,he]) hr
theorem BV(hD:vw X D){id:Nat}(hr:rD P X Y D Stop ro ds f cs (.inRegion ops (List.range ops.size)::k) T v):rD P X Y D Stop ro ds f cs (.code (.region id ops false)::k) T v:=xJ hD (λ_=>rfl) hr
theorem tZ(hD:vw X D)(hr:rD P X Y D Stop ro ds f cs k T v):rD P X Y D Stop ro ds f cs (.inRegion ops []::k) T v:=xJ hD (λ_=>rfl) hr
theorem rY(hF:xB P F)(hD:vw X D){c:Code}(hc:GR P F c=true)(hf:∃fn,P.funcs[f]?=some fn)
  (h:∀R:Act->World->Prop,(∀T' v',rD P X Y D Stop ro ds f cs k T' v'->R ⟨T',[]⟩ v')->∀τ d,c.wp P (λe a' v'=>e=.normal/\a'.defers=[]/\R a' v') ⟨T,[]⟩ {v with tape:=τ,drawn:=d}):rD P X Y D Stop ro ds f cs (.code c::k) T v:=
 afM hF hD hc hf λτ d=>h (λa' v'=>rD P X Y D Stop ro ds f cs k a'.tmps v') (λ_ _ x=>x) τ d
theorem xH(hD:vw X D){g:FuncId}{fn:Func}{c:Code}{args:Array Operand}{ats:Array TypeId}{vs:Array Value}{n:Nat}(ho:ops[i]?=some o)(hw:Region.wanted o (yielded ops T)=true)(uJ:o.op=.call {callee:=.value (.func g),args,argTypes:=ats})
  (hf:P.funcs[g]?=some fn) (O6:(fn.name== "runtime.NumGoroutine")=false) (hb:fn.body=some c) (hvs:args.map (⟨T,[]⟩:Act).eval=vs) (hn:fn.ntmps-vs.size=n)
  (h:rD P X Y D Stop none [] g (Dn none [] f T (.inRegion ops (i::rest)::k)::cs) [.code c] (vs++Array.replicate n undef) v):rD P X Y D Stop none [] f cs (.inRegion ops (i::rest)::k) T v:=by
 subst hvs hn;intro w hs;refine .next rfl λd=>?_
 obtain⟨g1,w1,es,hgo,rfl,rfl,rfl⟩:=goes_elim (goes_call (P:=P) (main:=true) (b:=base f) (a:=⟨T,[]⟩) (k:=k) (cs:=cs) (w:=w.at d) (rest:=rest) (K:=λg1 w1 es=>g1=G ((base g).at {tmps:=args.map (⟨T,[]⟩:Act).eval++Array.replicate (fn.ntmps-(args.map (⟨T,[]⟩:Act).eval).size) undef,defers:=[]} [.code c]) ((base f).at ⟨T,[]⟩ (.inRegion ops (i::rest)::k)::cs)/\w1=w.at d/\es=#[]) ho hw ni uJ hf O6 hb ⟨rfl,rfl,rfl⟩);exact⟨_,_,_,hgo,hD.nil (ak _),h _ (hs.at d)⟩
theorem qw(hF:xB P F)(hD:vw X D)(u:Value)(ho:ops[i]?=some o)(hw:Region.wanted o (yielded ops T)=true)(DX:alq P F o=true)(sJ:∀z:World,z.heap=v.heap->(execOp (⟨T,[]⟩:Act).eval o).run P z=.ok (.value u) z)
  (h:rD P X Y D Stop none [] f cs (.inRegion ops rest::k) ((⟨T,[]⟩:Act).put o.dst u).tmps v):rD P X Y D Stop none [] f cs (.inRegion ops (i::rest)::k) T v:=by
 have hd:((⟨T,[]⟩:Act).put o.dst u)=⟨((⟨T,[]⟩:Act).put o.dst u).tmps,[]⟩:=by cases o.dst<;>rfl
 refine alr (a:=⟨T,[]⟩) hF hD ho hw DX λτ d=>⟨_,sJ _ rfl,?_⟩
 rw[hd];exact λw ⟨τ0,d0,hs⟩=>h w ⟨τ0,d0,hs⟩
theorem acU(hF:xB P F)(hD:vw X D){a:Addr}{u:Value}(ho:ops[i]?=some o)(hw:Region.wanted o (yielded ops T)=true)(DX:alq P F o=true)(asG:o.dst=none)(sJ:∀z:World,z.heap=v.heap->(execOp (⟨T,[]⟩:Act).eval o).run P z=.ok .skip (z.setCell a u))
  (h:rD P X Y D Stop none [] f cs (.inRegion ops rest::k) T (v.setCell a u)):rD P X Y D Stop none [] f cs (.inRegion ops (i::rest)::k) T v:=by
 intro w hs;refine .next rfl λd=>?_
 have h0:=sJ {v with tape:=λp=>w.tape (d+p),drawn:=0} rfl;obtain⟨w',h1,h2,h3,h4⟩:=ahV hF DX h0 (hs.re d 0 (λp=>w.tape (d+p)) λi q=>ai) f;refine⟨G (Dn none [] f T (.inRegion ops rest::k)) cs,w',listed P f ⟨T,[]⟩ o (w.at d),?_,hD _ _ _ h3 h4,h w' ⟨_,_,h2⟩⟩
 have Ez:((base f).at ⟨T,[]⟩ (.inRegion ops (i::rest)::k)).finish undef=Dn none [] f T (.inRegion ops rest::k):=by rw[Frame.finish_at,ho];simp only[fB,asG];rfl
 show stepG P true (G ((base f).at ⟨T,[]⟩ (.inRegion ops (i::rest)::k)) cs) (w.at d)=_;rw[stepG_oper ho hw,<-Ez];simp[stepG.apply,h1,G,Frame.at,base,GStep.after,listed]
theorem R_(l:Nat)(y:Value):(Dn ro ds f T (.inRangeFunc l::k)).finish y=Dn ro ds f T (.endRangeFunc l::k):=rfl
theorem wU(ho:ops[i]?=some o)(y:Value):(Dn ro ds f T (.inRegion ops (i::rest)::k)).finish y=Dn ro ds f ((⟨T,[]⟩:Act).put o.dst y).tmps (.inRegion ops rest::k):=by simp only[Frame.finish,Dn,ho,fB,Act.put];cases o.dst<;>rfl
end
section
variable {P:Program}{F:FuncId->Bool}{X:Nat->Prop}{Y:Nat->Option Obj}{D:Nat->World->Array Event->Prop}{Stop:Goroutine->World->Prop}
variable (P F X Y D Stop)in
structure SgC(cs:List Frame)(Q:Frame->World->Prop)(s:Sg):Prop where
 tf:I9 P F s.f
 mode:s.f.mode=.run\/s.f.mode=.returning
 stack:Stack P F s.r
 VQ:qL X Y s.w s.u
 law:∀τ:Nat->Question->Nat,(∀p,p<s.u.drawn->τ p=s.u.tape p)->∃n fz v',F7 P n s.f (s.r++[f0]) {s.u with tape:=τ} fz [f0] v'/\fz.mode=.returning/\Q fz v'
 no:¬rV P D Stop (G s.f (s.r++cs)) s.w
theorem YK{cs:List Frame}{Q:Frame->World->Prop}(hK:∀fz v' w',I9 P F fz->fz.mode=.returning->Q fz v'->qL X Y w' v'->rV P D Stop (G fz cs) w'){s:Sg}(hi:SgC P F X Y D Stop cs Q s){τ:Nat->Question->Nat}{fz:Frame}{v':World}
  (h:F7 P 0 s.f (s.r++[f0]) {s.u with tape:=τ} fz [f0] v') (hm:fz.mode=.returning) (hq:Q fz v'):False:=by
 obtain⟨h1,h2,h3⟩:=zg h
 have hr:s.r=[]:=by exact awX
 apply hi.no;have:G s.f (s.r++cs)=G fz cs:=auV;rw[this];refine hK fz v' s.w (h1▸hi.tf) hm hq ?_;rw[<-h3];exact hi.VQ.to τ s.u.drawn
theorem Uk(hF:xB P F)(hD:vw X D){cs:List Frame}{Q:Frame->World->Prop}(hK:∀fz v' w',I9 P F fz->fz.mode=.returning->Q fz v'->qL X Y w' v'->rV P D Stop (G fz cs) w'){s:Sg}
  (hi:SgC P F X Y D Stop cs Q s):∃s',SgC P F X Y D Stop cs Q s'/\CZ P s s':=by
 obtain⟨d,hd⟩:∃d,∀g' w' es,stepG P true (G s.f (s.r++cs)) (s.w.at d)=.go g' w' es->D s.w.heap.size w' es->¬rV P D Stop g' w':=by
  refine ja λO4=>hi.no (.next rfl λd=>?_)
  exact aw_
 let τ₁:Nat->Question->Nat:=λp q=>if p<s.u.drawn then s.u.tape p q else s.w.tape (d+(p-s.u.drawn)) q
 have hs:xE X Y (s.w.at d) {s.u with tape:=τ₁}:=hi.VQ.re d s.u.drawn τ₁ λi q=>by
  show s.w.tape (d+i) q=if s.u.drawn+i<s.u.drawn then _ else _
  exact aw2
 have hag:∀p,p<s.u.drawn->τ₁ p=s.u.tape p:=λp hp=>by
  funext q
  exact awY
 obtain⟨n,fz,v',hn,hzm,hq⟩:=hi.law τ₁ hag;cases n with
 |zero=>exact(YK hK hi hn hzm hq).elim
 |succ n=>
  have mk:∀(f':Frame)(r':List Frame)(u₂ w₂:World)(es:Array Event),I9 P F f'->(f'.mode=.run\/f'.mode=.returning)->Stack P F r'->xE X Y w₂ u₂->Tp P (G s.f (s.r++[f0])) {s.u with tape:=τ₁} (G f' (r'++[f0])) u₂ es->
    stepG P true (G s.f (s.r++cs)) (s.w.at d)=.go (G f' (r'++cs)) w₂ es->s.w.heap.size<=w₂.heap.size->NW X w₂ es->∃s',SgC P F X Y D Stop cs Q s'/\CZ P s s':=λf' r' u₂ w₂ es h1 h2 h3 h4 h5 h6 h8 h7=>by
   obtain⟨t1,t2,t3⟩:=h5;dsimp only at t1 t2 t3;refine⟨⟨f',r',u₂,w₂⟩,⟨h1,h2,h3,h4.t,λτ hτ=>?_,hd _ _ _ h6 (hD _ _ _ h8 h7)⟩,t2,λp hp=>auM,λτ hτ=>⟨es,t3 τ λp EJ CJ=>auR⟩⟩;dsimp only at hτ;obtain⟨n,fz,v',hn,hzm,hq⟩:=hi.law τ λp hp=>auT
   cases n with
   |zero=>exact(YK hK hi hn hzm hq).elim
   |succ n=>exact⟨n,fz,v',wV (t3 τ λp _ CJ=>auS) hn,hzm,hq⟩
  rcases hi.mode with hm|hm
  .rcases amX (cs:=s.r++[f0]) hF hi.tf hm hs with⟨o,KQ,rJ,he⟩|⟨ch,KQ,rJ,he⟩|⟨g',KQ,rJ,w',he,htp,xn,hsz,hev,ahW⟩
   .exact awy
   .exact absurd (wV he hn) (Xu (F:=F) n _ s.r ch _ fz [f0] v' (J4 hi.stack) rfl ⟨hi.tf.fn,hi.tf.defers⟩ (λch e=>by rw[hzm]at e;cases e))
   .cases ahW with
    |@here f' hg ZV VB hB=>
     subst hg;refine mk f' s.r KQ w' rJ ZV VB hi.stack xn htp ?_ hsz hev;have:=hB [] (s.r++cs) (λ_=>rfl);rw[zh,zh]at this;exact this
    |@call e hg hTe hme hne hB=>
     subst hg;refine mk e (s.f::s.r) KQ w' rJ hTe (.inl hme) ⟨⟨hi.tf,hm,hne.1,PR hi.tf hm hne⟩,hi.stack⟩ xn htp ?_ hsz hev;have:=hB [] (s.r++cs);rw[zh]at this;exact this
    |back _ _ hr _=>rw[hm]at hr;cases hr
  .cases hr:s.r with
   |nil=>
    rw[hr]at hn;rcases QL (c:=f0) (r:=[]) (F:=F) hi.tf hm hs with⟨o,KQ,rJ,he⟩|⟨y,KQ,rJ,w',he,_⟩
    .exact awy
    .exact absurd (wV he hn) (Ul n _ fz v')
   |cons c r=>
    have hS:=hi.stack;rw[hr]at hn hS mk;rcases QL (c:=c) (r:=r++[f0]) (F:=F) hi.tf hm hs with⟨o,KQ,rJ,he⟩|⟨y,KQ,rJ,w',he,htp,xn,hsz,hev,hB⟩
    .exact awy
    .obtain⟨hTc,hmc,_⟩:=hS.1.2.2.2 y;exact mk (c.finish y) r KQ w' rJ hTc (.inl hmc) hS.2 xn htp (hB c (r++cs)) hsz hev
theorem apU(hF:xB P F)(hD:vw X D){cs:List Frame}{Q:Frame->World->Prop}{f:Frame}(hT:I9 P F f)(hm:f.mode=.run){v:World}(h:∀τ d,∃n fz v',F7 P n f [f0] {v with tape:=τ,drawn:=d} fz [f0] v'/\fz.mode=.returning/\Q fz v')
  {w:World} (hs:qL X Y w v) (hK:∀fz v' w',I9 P F fz->fz.mode=.returning->Q fz v'->qL X Y w' v'->rV P D Stop (G fz cs) w'):rV P D Stop (G f cs) w:=by
 refine ja λO4=>?_
 have start:SgC P F X Y D Stop cs Q ⟨f,[],{v with drawn:=0},w⟩:=⟨hT,.inl hm,trivial,hs.to v.tape 0,λτ _=>h τ 0,O4⟩
 let nx:{s//SgC P F X Y D Stop cs Q s}->{s//SgC P F X Y D Stop cs Q s}:=λs=>⟨(Uk hF hD hK s.2).choose,(Uk hF hD hK s.2).choose_spec.1⟩
 have nxs:∀s,CZ P s.1 (nx s).1:=λs=>(Uk hF hD hK s.2).choose_spec.2
 let q:Nat->{s//SgC P F X Y D Stop cs Q s}:=λn=>Nat.rec ⟨_,start⟩ (λ_ s=>nx s) n
 have qs:∀n,CZ P (q n).1 (q (n+1)).1:=λn=>nxs (q n)
 have mono:∀n m,n<=m->(q n).1.u.drawn<=(q m).1.u.drawn/\∀p,p<(q n).1.u.drawn->(q m).1.u.tape p=(q n).1.u.tape p:=by
  intro n m Yt
  induction m with
  |zero=>
   obtain rfl:n=0:=ae;exact⟨ak _,λ_ _=>rfl⟩
  |succ m ih=>
   rcases aQ n (m+1)with qE|VF
   .exact awZ
   .exact aw5
 have dec:∀p,Decidable (∃n,p<(q n).1.u.drawn):=λp=>Classical.propDecidable _
 let τ:Nat->Question->Nat:=λp=>if h:∃n,p<(q n).1.u.drawn then(q h.choose).1.u.tape p else λ_=>0
 have agree:∀n p,p<(q n).1.u.drawn->τ p=(q n).1.u.tape p:=λn p hp=>by
  have hex:∃n,p<(q n).1.u.drawn:=⟨n,hp⟩;show(if h:∃n,p<(q n).1.u.drawn then(q h.choose).1.u.tape p else λ_=>0)=_;rw[j_ hex];have hc:=hex.choose_spec;rcases at1 n hex.choose with hle|hle
  .exact(mono n _ hle).2 p hp
  .exact aw9
 have never:∀(m i:Nat)(fz:Frame)(v':World),F7 P m (q i).1.f ((q i).1.r++[f0]) {(q i).1.u with tape:=τ} fz [f0] v'->fz.mode=.returning->Q fz v'->False:=by
  intro m
  induction m with
  |zero=>exact λi fz v' h hm hq=>YK hK (q i).2 h hm hq
  |succ m ih=>
   intro i fz v' h hm hq;obtain⟨es,he⟩:=(qs i).2.2 τ λp _ hp=>agree (i+1) p hp
   exact ih (i+1) fz v' (wV he h) hm hq
 obtain⟨n,fz,v',hn,hm,hq⟩:=(q 0).2.law τ λp hp=>agree 0 p hp
 exact never n 0 fz v' hn hm hq
variable {f:FuncId}{k:List Item}{cs:List Frame}{a:Act}{v:World}{ops:Array Oper}{i:Nat}{rest:List Nat}{o:Oper}
theorem MG(hF:xB P F)(hD:vw X D){g:FuncId}(hg:I_ P F g){args:Array Operand}{ats:Array TypeId}{vs:Array Value}{R:Value->World->Prop}(ho:ops[i]?=some o)(hw:Region.wanted o (yielded ops a.tmps)=true)(uJ:o.op=.call {callee:=.value (.func g),args,argTypes:=ats})(hvs:args.map a.eval=vs)(hsz:vs.size<=arity P g)
  (hc:∀τ d,Calls P g vs {v with tape:=τ,drawn:=d} λe v'=>∃y,e=.returned y/\R y v') (h:∀y v',R y v'->uh P X Y D Stop f cs (.inRegion ops rest::k) (a.put o.dst y) v'):uh P X Y D Stop f cs (.inRegion ops (i::rest)::k) a v:=by
 subst hvs;intro w hs;obtain⟨fn1,c1,S1,g1,g2,g3,g4,g5⟩:=id hg;refine .next rfl λd=>?_
 obtain⟨g1',w1',KZ,hgo,rfl,rfl,rfl⟩:=goes_elim (goes_call (P:=P) (main:=true) (b:=base f) (a:=a) (k:=k) (cs:=cs) (w:=w.at d) (rest:=rest) (K:=λg1 w1 es=>g1=G ((base g).at {tmps:=args.map a.eval++Array.replicate (fn1.ntmps-(args.map a.eval).size) undef,defers:=[]} [.code c1]) ((base f).at a (.inRegion ops (i::rest)::k)::cs)/\w1=w.at d/\es=#[]) ho hw ni uJ g1 g2 g3 ⟨rfl,rfl,rfl⟩);refine⟨_,_,_,hgo,hD.nil (ak _),?_⟩;have e0:G ((base g).at {tmps:=args.map a.eval++Array.replicate (fn1.ntmps-(args.map a.eval).size) undef,defers:=[]} [.code c1]) ((base f).at a (.inRegion ops (i::rest)::k)::cs)=G (Frame.enter P g (args.map a.eval) .normal) ((base f).at a (.inRegion ops (i::rest)::k)::cs):=by rw[<-enter_at _ g1 g3]
 rw[e0];refine apU (Q:=λfr v'=>∃y,R y v'/\fr.defers=[]/\fr.kind=.normal/\∃fn,P.funcs[fr.fn]?=some fn/\(results fn fr.tmps).run P v'=.ok y v') hF hD (afK hg hsz) rfl (λτ d'=>?_) (hs.at d) (λfz v' w' hT hzm hQ xn=>?_)
 .obtain⟨e,v',fr,⟨y,rfl,hR⟩,apn,Nr,hlv⟩:=hc τ d' [f0];obtain⟨n,hn⟩:Steps P (lone (Frame.enter P g (args.map a.eval) .normal) [f0] {v with tape:=τ,drawn:=d'}) (lone fr [f0] v'):=apn;obtain⟨hm,hd,hk,fn,hf,hr⟩:=hlv;exact⟨n,fr,v',hn,hm,y,hR,hd,hk,fn,hf,hr⟩
 .obtain⟨y,hR,hd,hk,fn,hf,hr⟩:=hQ;refine .next rfl λd=>?_
  obtain⟨τ0,d0,NC⟩:=xn
  have yJ:xE X Y (w'.at d) {v' with tape:=λp=>w'.tape (d+(p-v'.drawn))}:=qL.re ⟨τ0,d0,NC⟩ d v'.drawn _ λi q=>by exact axN
  obtain⟨_,_,ht3⟩:=vZ (results fn fz.tmps) v' #[] y v' ((results fn fz.tmps).events P v' #[]) (wI fn fz.tmps) NC.nv pO;have Gy:=ht3 (λp=>w'.tape (d+(p-v'.drawn))) (λp h1 h2=>absurd h2 ae);obtain⟨w3,h1,h2,h3,h4⟩:=vJ (results fn fz.tmps) (w'.at d) _ #[] y _ _ (wI fn fz.tmps) yJ Gy;refine⟨G ((base f).at (a.put o.dst y) (.inRegion ops rest::k)) cs,w3,seen P fz.fn ((results fn fz.tmps).events P v' #[]),?_,hD _ _ _ (dX (yJ.size.trans h2.size.symm)) (λe he=>(h4 e (mem_seen he)).resolve_left ai),h y v' hR w3 ⟨_,_,h2⟩⟩
  have eF:((base f).at a (.inRegion ops (i::rest)::k)).finish y=(base f).at (a.put o.dst y) (.inRegion ops rest::k):=by simp only[Frame.finish,Frame.at,ho,fB,Act.put];cases o.dst<;>rfl
  obtain⟨fnx,tmps,todo,defers,mode,kind,round⟩:=fz;dsimp only at hzm hd hk hf hr h1 h4;subst hzm hd hk;show stepG P true _ (w'.at d)=_;simp only[G,stepG,unwind,hf,h1,doReturn,GStep.after];rw[eF];rfl
theorem afN(hD:vw X D){id:Nat}(h:∀t,uh P X Y D Stop f cs (.inRegion ops (Region.schedule (P.follows .mixedOrders) ops t)::k) a v):uh P X Y D Stop f cs (.code (.region id ops true)::k) a v:=by
 intro w hs;have hc:∀u:World,(choose (.order f id)).run P u=.ok (u.tape u.drawn (.order f id)) {u with drawn:=u.drawn+1}:=λu=>rfl
 refine .next rfl λd=>⟨_,(w.at (d+1)),#[],?_,hD.nil (ak _),h (w.tape d (.order f id)) _ (hs.at (d+1))⟩
 simp only[G,base,Frame.at,stepG,stepG.exec,iI,bu,aU,hc];rfl
end
#print axioms MG
end Go.Lf
namespace Go.Proofs.Y
open Go.Proofs.Tryz
abbrev link:Go.Conc.Lib.WgLink:={add:=48,done:=50,wait:=53,relMerge:=78,disable:=79,enable:=80,inBubble:=81,associate:=82,fatal:=83,uOr:=84,uAdd:=85,raceRead:=86,uLoad:=87,uStore:=88,disassociate:=89,semrelease:=90,acquire:=94,isAssociated:=95,uCas:=96,raceWrite:=97,semacquire:=98,orU64:=114,addU64:=115,loadU64:=116,storeU64:=117,casU64:=120,tWgP:=163,tUP:=148,tAssoc:=165,tWg:=112,tAU:=109,tU64:=64,tUint:=161,tU32:=110,tPU32:=169,tPAU:=204,tPU64:=206,tNoCopy:=105,tANoCopy:=106,tAlign64:=107}
theorem L8:Go.Conc.Lib.WgLib prog link:=
 ⟨func48,func50,func53,func78,func79,func80,func81,func82,func83,func84,func85,func86,func87,func88,func89,func90,func94,func95,func96,func97,func98,func114,func115,func116,func117,func120,underlying163,Tryz.runUnderlying163,Tryz.sizeOf163,Tryz.isAgg163,Tryz.zeroValue163,underlying148,Tryz.runUnderlying148,Tryz.sizeOf148,Tryz.isAgg148,Tryz.zeroValue148,underlying165,Tryz.runUnderlying165,Tryz.sizeOf165,Tryz.isAgg165,Tryz.zeroValue165,underlying112,Tryz.runUnderlying112,Tryz.sizeOf112,Tryz.isAgg112,Tryz.zeroValue112,underlying109,Tryz.runUnderlying109,Tryz.sizeOf109,Tryz.isAgg109,Tryz.zeroValue109,underlying64,Tryz.runUnderlying64,Tryz.sizeOf64,Tryz.isAgg64,Tryz.zeroValue64,underlying161,Tryz.runUnderlying161,Tryz.sizeOf161,Tryz.isAgg161,Tryz.zeroValue161,underlying110,Tryz.runUnderlying110,Tryz.sizeOf110,Tryz.isAgg110,Tryz.zeroValue110,underlying169,Tryz.runUnderlying169,Tryz.sizeOf169,Tryz.isAgg169,Tryz.zeroValue169,underlying204,Tryz.runUnderlying204,Tryz.sizeOf204,Tryz.isAgg204,Tryz.zeroValue204,underlying206,Tryz.runUnderlying206,Tryz.sizeOf206,Tryz.isAgg206,Tryz.zeroValue206,underlying0,Tryz.runUnderlying0,Tryz.sizeOf0,Tryz.isAgg0,Tryz.zeroValue0,underlying3,Tryz.runUnderlying3,Tryz.sizeOf3,Tryz.isAgg3,Tryz.zeroValue3,underlying4,Tryz.runUnderlying4,Tryz.sizeOf4,Tryz.isAgg4,Tryz.zeroValue4,underlying9,Tryz.runUnderlying9,Tryz.sizeOf9,Tryz.isAgg9,Tryz.zeroValue9,underlying20,Tryz.runUnderlying20,Tryz.sizeOf20,Tryz.isAgg20,Tryz.zeroValue20,underlying21,Tryz.runUnderlying21,Tryz.sizeOf21,Tryz.isAgg21,Tryz.zeroValue21,ag,ag⟩
end Go.Proofs.Y
namespace Go.Proofs.Y
open Go.Proofs.Tryz
open Go.Conc Go.ConcN Go.RowKit Go.Gh Go.Conc.Lib Go.ConcR.Gen Go.ConcN.Gen
open Go.ConcR (Payload)
theorem Be{P:Program}{main:Bool}{R:World->World->Prop}{D:World->World->Array Event->Prop}{fn:FuncId}{ops:Array Oper}{Q:Exit->Act->World->Prop}{S:World->Prop}{nf lst i k:Nat}{l:Array Bool}{a:Act}{w:World}{o:Oper}
  (hr:Region.ready .any ops l=[i]) (ho:ops[i]?=some o) (hw:Region.wanted o (yielded ops a.tmps)=true)
  (h:∀w₁,R w w₁->∀K:Act->World->Prop,(∀a' w',(D w₁ w' (listed P fn a o w₁)/\(i≠lst->S w')/\Ic P main R D fn ops nf Q S lst k (l.setIfInBounds i true) a' w')->K a' w')->uponK o a K ((execOp a.eval o).run P w₁)):Ic P main R D fn ops nf Q S lst (k+1) l a w:=
 F5 hr ⟨o,ho,.inl ⟨hw,λw₁ r=>h w₁ r _ λ_ _ x=>x⟩⟩
section
variable [Payload][qV]{main:Bool}{Wg C n B:Nat}{Cl:Nat->Prop}
omit [Payload]in
theorem Bs.zI{w:World}(h:Bs C B w){b:Nat}(hb:RY Wg C B w b):b<w.heap.size:=hb.elim (h.lt ·) λx=>aK x.1 h.hB
omit [qV]in
theorem Uh{w:World}(hp:PayAt C n w){i:Nat}(hi:i<n)(v:Value):Has C i v (w.setCell ⟨C,i,none⟩ v):=by obtain⟨arr,h1,h2⟩:=hp;simp[Has,World.cell?,heap_set w h1,h2,hi]
theorem YJ{w:World}(hp:PayAt C n w)(hC:C<w.heap.size){i:Nat}(hi:Cl i)(v:Value){es:Array Event}(he:∀e∈es,∃wr,e=⟨.cell ⟨C,i,none⟩,wr,false⟩):Dg Wg C n B Cl w (w.setCell ⟨C,i,none⟩ v) es:=by
 obtain⟨arr,h1,h2⟩:=hp;refine⟨dI,rfl,rfl,λb _ _ hb=>bF _ _ _ _ hb,λj hj=>?_,λ_=>⟨_,heap_set w h1 i v,jc⟩,λe Np=>?_⟩
 .simp only[World.cell?,heap_set w h1,h1];rw[jr (λe:i=j=>hj (e▸hi))]
 .obtain⟨wr,rfl⟩:=he e Np;exact⟨_,wr,rfl,by rw[tu];exact hC,.inr (.inr (.inl ⟨i,rfl,hi⟩))⟩
def V7(C L:Nat)(res:Nat->List Nat)(idx:Nat)(v:Value)(w:World):Prop:=∃N,v=.slice (some ⟨N,0,none⟩) L L/\qO w N/\N≠C/\w.heap[N]?=some (.cells (tV (res idx)) 5)
omit [qV]in
theorem V7.rely{w w₁:World}{L idx:Nat}{res:Nat->List Nat}{v:Value}(h:V7 C L res idx v w)(r:Ro Wg C n B Cl w w₁):V7 C L res idx v w₁:=by obtain⟨N,h1,h2,h3,h4⟩:=h;exact⟨N,h1,(r.yj _).2 h2,h3,(r.mine _ h2).trans h4⟩
structure WD1(C L:Nat)(res:Nat->List Nat)(idx:Nat)(v:Value)(w:World):Prop where
 wp:V7 C L res idx v w
 has:Has C idx v w
omit [qV]in
theorem WD1.rely{w w₁:World}{L idx:Nat}{res:Nat->List Nat}{v:Value}(h:WD1 C L res idx v w)(r:Ro Wg C n B (· =idx) w w₁):WD1 C L res idx v w₁:=⟨h.wp.rely r,(r.cell idx rfl).trans h.has⟩
end
section
variable [Payload][qV]{main:Bool}{Wg C n B:Nat}{Cl:Nat->Prop}
structure Cap where
 ba:Nat
 bj:Nat
 bv:Nat
 bW:Nat
 oW:Nat
 cW:Nat
 br:Nat
 oR:Nat
 cR:Nat
 bd:Nat
 bD:Nat
 oD:Nat
 cD:Nat
structure WIn(Wg C n B:Nat)(c:Cap)(k L idx:Nat)(ws:List Nat)(cs:List Ub)(w:World):Prop where
 bs:Bs C B w
 pay:PayAt C n w
 ra:RY Wg C B w c.ba
 va:w.cell? ⟨c.ba,0,none⟩=some (.slice (some ⟨C,0,none⟩) k k)
 rj:RY Wg C B w c.bj
 vj:w.cell? ⟨c.bj,0,none⟩=some (.int .i64 ((idx:Nat):Int))
 rv:RY Wg C B w c.bv
 vv:w.cell? ⟨c.bv,0,none⟩=some (.slice (some ⟨c.bW,c.oW,none⟩) k c.cW)
 rW:RY Wg C B w c.bW
 vW:w.cell? ⟨c.bW,c.oW+idx,none⟩=some (.slice (some ⟨c.br,c.oR,none⟩) k c.cR)
 rd:RY Wg C B w c.bd
 vd:w.cell? ⟨c.bd,0,none⟩=some (.slice (some ⟨c.bD,c.oD,none⟩) k c.cD)
 cin:CIn Wg C B c.br c.oR c.bD c.oD L ws cs w
theorem WIn.ex{w w₁:World}{c:Cap}{k L idx:Nat}{ws:List Nat}{cs:List Ub}(h:WIn Wg C n B c k L idx ws cs w)(hb:Bs C B w₁)(r:Ex Wg C n B Cl (λ_=>False) w w₁):WIn Wg C n B c k L idx ws cs w₁:=by
 have st:∀{b:Nat},RY Wg C B w b->∀o,w₁.cell? ⟨b,o,none⟩=w.cell? ⟨b,o,none⟩:=λhb o=>auy
 exact⟨hb,r.pay h.pay,r.rdb h.ra,(st h.ra _).trans h.va,r.rdb h.rj,(st h.rj _).trans h.vj,r.rdb h.rv,(st h.rv _).trans h.vv,r.rdb h.rW,(st h.rW _).trans h.vW,r.rdb h.rd,(st h.rd _).trans h.vd,h.cin.ex r⟩
theorem WIn.rely{w w₁:World}{c:Cap}{k L idx:Nat}{ws:List Nat}{cs:List Ub}(h:WIn Wg C n B c k L idx ws cs w)(r:Ro Wg C n B Cl w w₁):WIn Wg C n B c k L idx ws cs w₁:=h.ex (h.bs.rely r) r.ex
def w0:Frame:=baseD 111
noncomputable def YL:Frame:={(default:Frame)with fn:=prog.funcs.size,defers:=[],mode:=.panicking [goexitEntry]}
noncomputable def ahX:Code:=Tryz.f111.body.getD .skip
def QA(Wg:Nat)(c:Cap):Array Value:=#[.pointer (some ⟨Wg,0,none⟩),.pointer (some ⟨c.bv,0,none⟩),.pointer (some ⟨c.bj,0,none⟩),.pointer (some ⟨c.bd,0,none⟩),.pointer (some ⟨c.ba,0,none⟩)]
def aaw(Wg:Nat)(c:Cap):Deferred:={target:=.fn (.func 111) (QA Wg c),args:=#[]}
omit [Payload][qV]in
theorem anI(c:Cap)(w:World):stepG prog false (born prog (aaw Wg c)) w=.go (G (w0.at ⟨QA Wg c++Array.replicate 9 undef,[]⟩ [.code ahX]) [YL]) w #[]:=by simp[born,aaw,QA,stepG,unwind,callDeferred,invoke,callFunc,func111,Tryz.f111,seen,GStep.after,G,Frame.enter,Frame.at,w0,baseD,YL,ahX]
omit [Payload][qV]in
theorem als(T:Array Value):QuitsD prog 2 0 (G {w0.at ⟨T,[]⟩ []with mode:=.returning} [YL]):=by
 refine QuitsD.ctl (g':=G YL []) rfl (λw=>?_) ?_
 .simp[G,stepG,unwind,doReturn,results,Frame.at,w0,baseD,YL,func111,Tryz.f111,seen,GStep.after,goexitEntry]
 refine QuitsD.ctl (g':={G YL []with status:=.finished}) rfl (λw=>?_) ⟨rfl,rfl⟩;simp[G,stepG,unwind,YL,goexitEntry,Frame.catches];rfl
theorem arl(k L:Nat)(hk0:0<k)(hk:k<=128)(hL:L<=140737488355328)(idx:Nat)(akD:idx<k):∃m,∀(w:World)(c:Cap)(ws:List Nat)(cs:List Ub)(res:Nat->List Nat),Dl ws k->cs.length=k->(∀x∈ws,x<256)->(∀c∈cs,Dl c.ys L/\∀y∈c.ys,y<256)->
  res idx=comb (EH ws cs) (List.replicate L 0)->WIn Wg C k B c k L idx ws cs w->Wk prog link.tWg Wg C k B (V7 C L res) idx m (born prog (aaw Wg c)) w:=by
 obtain⟨q,hq⟩:=Xt (main:=false) (Wg:=Wg) (C:=C) (n:=k) (B:=B) (Cl:=(· =idx)) k L hk0 hk hL;refine⟨?m,λw c ws cs res hlw hlc hws hcs BF hF=>?_⟩
 case m=>exact(3+(10*(q+3)+1+1))+1+1+1+1+1
 have hiI:(idx:Int)<(k:Int):=ae;have T:=p_ (Wg:=Wg) (C:=C) (n:=k) (B:=B) (Cl:=(· =idx));unfold Wk;refine ay rfl λw₁ h₁=>?_
 replace hF:=hF.rely h₁;clear h₁;rw[anI];refine⟨T.idle _,?_⟩;simp only[QA,ahX,Tryz.f111,aB,cu,b_,bU,bY,bg,aV];refine ay rfl λw₁ h₁=>?_
 replace hF:=hF.rely h₁;clear h₁;rw[aC];refine⟨T.idle _,?_⟩;refine ay rfl λw₁ h₁=>?_
 replace hF:=hF.rely h₁;clear h₁;rw[cO];refine⟨T.idle _,?_⟩;simp only[dY,bQ,dB,aT,List.range,List.range.loop];refine ay rfl λw₁ h₁=>?_
 replace hF:=hF.rely h₁;clear h₁;rw[stepG_defer rfl rfl au rfl];refine⟨T.idle _,?_⟩;walk_nrm;refine ay rfl λw₁ h₁=>?_
 replace hF:=hF.rely h₁;clear h₁;rw[aH];refine⟨T.idle _,?_⟩;refine wpC_goes (m:=3) (Q:=λe a' w'=>e=.normal/\a'.defers=[dcall 50 #[.pointer (some ⟨Wg,0,none⟩)]]/\∃v,WD1 C L res idx v w') (Ak T aeA (S:=WIn Wg C k B c k L idx ws cs) (lst:=9) (nf:=q) ag (λw₁ h₁=>?_)) rfl au ?_
 .replace hF:WIn Wg C k B c k L idx ws cs {w₁ with drawn:=w₁.drawn+1}:=by
   have:=hF.rely h₁;exact⟨⟨this.bs.tg,this.bs.hC,this.bs.hB,this.bs.ow⟩,this.pay,this.ra,this.va,this.rj,this.vj,this.rv,this.vv,this.rW,this.vW,this.rd,this.vd,⟨this.cin.rw,this.cin.lw,this.cin.rc,this.cin.lc,this.cin.hw,this.cin.hc,this.cin.xP⟩⟩
  clear h₁;have Nq:∀x y,WIn Wg C k B c k L idx ws cs x->Ro Wg C k B (· =idx) x y->WIn Wg C k B c k L idx ws cs y:=λ_ _ h r=>h.rely r
  have Ry:∀(a:Act)(x y:World),(Exit.normal=.normal/\a.defers=[dcall 50 #[.pointer (some ⟨Wg,0,none⟩)]]/\∃v,WD1 C L res idx v x)->Ro Wg C k B (· =idx) x y->(Exit.normal=.normal/\a.defers=[dcall 50 #[.pointer (some ⟨Wg,0,none⟩)]]/\∃v,WD1 C L res idx v y):=λa x y ⟨h1,h2,v,h3⟩ r=>⟨h1,h2,v,h3.rely r⟩
  generalize{w₁ with drawn:=w₁.drawn+1}=w2 at hF⊢;simp only[dY,bQ,dB,Nat.reduceAdd,aT]
  (co_applyP sD T Nq Ry (i:=0) rfl ag ag ag ag ag (.inl ⟨ax,λ_ hw=>⟨run_eq_of ?aar,?Ud⟩⟩) hF ?ahJ
   case aar=>
    intro Kq uA
    (have h1:=hw.va)
    exact awv
   case Ud=>
    (have h1:=hw.va)
    (refine tK hw.ra (hw.bs.zI hw.ra) ?_;co_evs (exact⟨_,rfl,rfl⟩))
   try walk_nrm)
  (co_applyP sD T Nq Ry (i:=1) rfl ag ag ag ag ag (.inl ⟨ax,λ_ hw=>⟨run_eq_of ?aas,?Ue⟩⟩) hF ?ahK
   case aas=>
    intro Kq uA
    (have h1:=hw.vj)
    exact awv
   case Ue=>
    (have h1:=hw.vj)
    (refine tK hw.rj (hw.bs.zI hw.rj) ?_;co_evs (exact⟨_,rfl,rfl⟩))
   try walk_nrm)
  (co_applyP sD T Nq Ry (i:=2) rfl ag ag ag ag ag (.inl ⟨ax,λ_ hw=>⟨run_eq_of ?aat,?Uf⟩⟩) hF ?ahL
   case aat=>
    intro Kq uA
    (have h1:=hw.vv)
    exact awv
   case Uf=>
    (have h1:=hw.vv)
    (refine tK hw.rv (hw.bs.zI hw.rv) ?_;co_evs (exact⟨_,rfl,rfl⟩))
   try walk_nrm)
  (co_applyP sD T Nq Ry (i:=3) rfl ag ag ag ag ag (.inl ⟨ax,λ_ hw=>⟨run_eq_of ?aau,?Ug⟩⟩) hF ?ahM
   case aau=>
    intro Kq uA
    (have h1:=hw.vj)
    exact awv
   case Ug=>
    (have h1:=hw.vj)
    (refine tK hw.rj (hw.bs.zI hw.rj) ?_;co_evs (exact⟨_,rfl,rfl⟩))
   try walk_nrm)
  (co_applyP sD T Nq Ry (i:=4) rfl ag ag ag ag ag (.inl ⟨ax,λ_ hw=>⟨run_eq_of ?ahN,?acT⟩⟩) hF ?anF
   case ahN=>
    intro Kq uA
    (skip)
    exact awv
   case acT=>
    (skip)
    (co_still T)
   try walk_nrm)
  (co_applyP sD T Nq Ry (i:=5) rfl ag ag ag ag ag (.inl ⟨ax,λ_ hw=>⟨run_eq_of ?apV,?anJ⟩⟩) hF ?arG
   case apV=>
    intro Kq uA
    (have h1:=hw.vW)
    exact awv
   case anJ=>
    (have h1:=hw.vW)
    (refine tK hw.rW (hw.bs.zI hw.rW) ?_;co_evs (exact⟨_,rfl,rfl⟩))
   try walk_nrm)
  (co_applyP sD T Nq Ry (i:=6) rfl ag ag ag ag ag (.inl ⟨ax,λ_ hw=>⟨run_eq_of ?apW,?anK⟩⟩) hF ?arH
   case apW=>
    intro Kq uA
    (have h1:=hw.vd)
    exact awv
   case anK=>
    (have h1:=hw.vd)
    (refine tK hw.rd (hw.bs.zI hw.rd) ?_;co_evs (exact⟨_,rfl,rfl⟩))
   try walk_nrm)
  refine F5 (i:=7) ag ⟨_,rfl,.inr (.inl ⟨ax,_,_,_,(λv w'=>∃N,v=.slice (some ⟨N,0,none⟩) L L/\CG Wg C k B (· =idx) w2 N (comb (EH ws cs) (List.replicate L 0)) w'),rfl,by walk_nrm;exact hq w2 c.br c.oR c.cR c.bD c.oD c.cD ws cs hlw hlc hws hcs hF.bs hF.cin,?_⟩)⟩;rintro v w' ⟨N,rfl,hg⟩;have hN:N≠C:=awg;replace hF:=hF.ex hg.bs hg.ex;have hwp:V7 C L res idx (.slice (some ⟨N,0,none⟩) L L) w':=⟨N,rfl,hg.mn,hN,by rw[BF];exact hg.hx⟩;clear hg;refine⟨λ_=>hF,?_⟩;walk_nrm;refine Be (i:=8) ag rfl ax (λw₁ hR K hK=>?_);replace hF:=hF.rely hR;replace hwp:=hwp.rely hR;clear hR;go_simp;refine hK _ _ ⟨?_,λ_=>hF,?_⟩
  .co_still T
  clear hK K;walk_nrm;refine Be (i:=9) ag rfl ax (λw₁ hR K hK=>?_);replace hF:=hF.rely hR;replace hwp:=hwp.rely hR;clear hR
  obtain⟨u,hu1,hu2⟩:∃u,w₁.cell? ⟨C,idx,none⟩=some u/\w₁.frozen? ⟨C,idx,none⟩=false:=by exact axC
  go_simp
  try(unfold stored;go_simp)
  refine hK _ _ ⟨?_,λh=>absurd rfl h,?_⟩
  .refine YJ (Cl:=(· =idx)) hF.pay hF.bs.hC (i:=idx) rfl _ ?_
   co_evs (exact⟨_,rfl⟩)
  clear hK K;walk_nrm;refine JZ ag ⟨rfl,rfl,.slice (some ⟨N,0,none⟩) L L,⟨N,rfl,?_,hN,?_⟩,Uh hF.pay akD _⟩ _
  .exact axF
  .exact axK
 .rintro e a' w' ⟨rfl,hd,v,hk⟩;show Goes _ _ _ _ _ 3 (G (w0.at a' []) [YL]) w';refine ay rfl λw₁ h₁=>?_
  replace hk:=hk.rely h₁;clear h₁;rw[stepG_end];refine⟨T.idle _,?_⟩;refine ay rfl λw₁ h₁=>?_
  replace hk:=hk.rely h₁;clear h₁;rw[stepG_unwind_enter hd func50 (nm_done link) rfl];refine⟨T.idle _,?_⟩;refine bI λw₁ h₁=>?_
  replace hk:=hk.rely h₁;clear h₁;refine⟨rfl,v,hk.wp,hk.has,λW h1 h2=>?_⟩;have hA:=@doneN _ link prog L8 Z8 Z8 Wg C k 0 (idx+1) v;have:=hA (c:={w0.at ⟨a'.tmps,[]⟩ []with mode:=.returning}) (cs:=[YL]) (qt:=2) rfl (als a'.tmps) W ⟨h1,jc⟩;exact this
