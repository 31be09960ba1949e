import Derived.Test.YtlghjjennhpjeaaGreatDoorLfO
import Derived.Test.YtlghjjennhpjeaaGreatDoorChecked
import Derived.Test.YtlghjjennhpjeaaGreatDoorSvX
import Derived.Conc.WgWords
set_option maxHeartbeats 4000000
set_option maxRecDepth 100000
namespace Go.Lf
open Go.Conc
section
variable {P:aP}{F:aU->Bool}{X:Nat->Prop}{Y:Nat->aZ}{D:Nat->ah->aN->Prop}{Stop:aI->ah->Prop}
variable (P F X Y D Stop)in
structure SgC(cs:aT)(Q:aS->ah->Prop)(s:Sg):Prop where
 tf:Jq P F s.f
 mode:s.f.mode=.run\/s.f.mode=.returning
 stack:Stack P F s.r
 VW:rG X Y s.w s.u
 law:∀τ:Nat->Question->Nat,(∀p,p<s.u.drawn->τ p=s.u.tape p)->∃n fz v',Gs P n s.f (s.r++[f0]) {s.u with tape:=τ} fz [f0] v'/\fz.mode=.returning/\Q fz v'
 no:¬sU P D Stop (G s.f (s.r++cs)) s.w
theorem YU{cs:aT}{Q:aS->ah->Prop}(hK:∀fz v' w',Jq P F fz->fz.mode=.returning->Q fz v'->rG X Y w' v'->sU P D Stop (G fz cs) w'){s:Sg}(hi:SgC P F X Y D Stop cs Q s){τ:Nat->Question->Nat}{fz:aS}{v':ah}
  (h:Gs P 0 s.f (s.r++[f0]) {s.u with tape:=τ} fz [f0] v') (hm:fz.mode=.returning) (hq:Q fz v'):False:=by
 obtain⟨h1,h2,h3⟩:=zy h
 have hr:s.r=[]:=by exact axJ
 apply hi.no;have:G s.f (s.r++cs)=G fz cs:=avt;rw[this];refine hK fz v' s.w (h1▸hi.tf) hm hq ?_;rw[<-h3];exact hi.VW.to τ s.u.drawn
theorem Uw(hF:x9 P F)(hD:zN X D){cs:aT}{Q:aS->ah->Prop}(hK:∀fz v' w',Jq P F fz->fz.mode=.returning->Q fz v'->rG X Y w' v'->sU P D Stop (G fz cs) w'){s:Sg}
  (hi:SgC P F X Y D Stop cs Q s):∃s',SgC P F X Y D Stop cs Q s'/\CW P s s':=by
 obtain⟨d,hd⟩:∃d,∀g' w' es,stepG P true (G s.f (s.r++cs)) (s.w.at d)=.go g' w' es->D s.w.heap.size w' es->¬sU P D Stop g' w':=by
  refine iw λPK=>hi.no (.next rfl λd=>?_)
  exact axB
 let τ₁:Nat->Question->Nat:=λp q=>if p<s.u.drawn then s.u.tape p q else s.w.tape (d+(p-s.u.drawn)) q
 have hs:yg X Y (s.w.at d) {s.u with tape:=τ₁}:=hi.VW.re d s.u.drawn τ₁ λi q=>by
  show s.w.tape (d+i) q=if s.u.drawn+i<s.u.drawn then _ else _
  exact axx
 have hag:∀p,p<s.u.drawn->τ₁ p=s.u.tape p:=λp hp=>by
  funext q
  exact axH
 obtain⟨n,fz,v',hn,hzm,hq⟩:=hi.law τ₁ hag;cases n with
 |zero=>exact(YU hK hi hn hzm hq).elim
 |succ n=>
  have mk:∀(f':aS)(r':aT)(u₂ w₂:ah)(es:aN),Jq P F f'->(f'.mode=.run\/f'.mode=.returning)->Stack P F r'->yg X Y w₂ u₂->Tp P (G s.f (s.r++[f0])) {s.u with tape:=τ₁} (G f' (r'++[f0])) u₂ es->
    stepG P true (G s.f (s.r++cs)) (s.w.at d)=.go (G f' (r'++cs)) w₂ es->s.w.heap.size<=w₂.heap.size->Ux X w₂ es->∃s',SgC P F X Y D Stop cs Q s'/\CW P s s':=λf' r' u₂ w₂ es h1 h2 h3 h4 h5 h6 h8 h7=>by
   obtain⟨t1,t2,t3⟩:=h5;dsimp only at t1 t2 t3;refine⟨⟨f',r',u₂,w₂⟩,⟨h1,h2,h3,h4.t,λτ hτ=>?_,hd _ _ _ h6 (hD _ _ _ h8 h7)⟩,t2,λp hp=>avn,λτ hτ=>⟨es,t3 τ λp QI BJ=>avp⟩⟩;dsimp only at hτ;obtain⟨n,fz,v',hn,hzm,hq⟩:=hi.law τ λp hp=>avr
   cases n with
   |zero=>exact(YU hK hi hn hzm hq).elim
   |succ n=>exact⟨n,fz,v',wY (t3 τ λp _ BJ=>avq) hn,hzm,hq⟩
  rcases hi.mode with hm|hm
  .rcases anj (cs:=s.r++[f0]) hF hi.tf hm hs with⟨o,LY,rF,he⟩|⟨ch,LY,rF,he⟩|⟨g',LY,rF,w',he,htp,xk,hsz,hev,ah_⟩
   .exact axe
   .exact absurd (wY he hn) (Xq (F:=F) n _ s.r ch _ fz [f0] v' (KQ hi.stack) rfl ⟨hi.tf.fn,hi.tf.defers⟩ (λch e=>by rw[hzm]at e;cases e))
   .cases ah_ with
    |@here f' hg hT' Tf hB=>
     subst hg;refine mk f' s.r LY w' rF hT' Tf hi.stack xk htp ?_ hsz hev;have:=hB [] (s.r++cs) (λ_=>rfl);rw[zA,zA]at this;exact this
    |@call e hg hTe hme hne hB=>
     subst hg;refine mk e (s.f::s.r) LY w' rF hTe (.inl hme) ⟨⟨hi.tf,hm,hne.1,P_ hi.tf hm hne⟩,hi.stack⟩ xk htp ?_ hsz hev;have:=hB [] (s.r++cs);rw[zA]at this;exact this
    |back _ _ hr _=>rw[hm]at hr;cases hr
  .cases hr:s.r with
   |nil=>
    rw[hr]at hn;rcases QU (c:=f0) (r:=[]) (F:=F) hi.tf hm hs with⟨o,LY,rF,he⟩|⟨y,LY,rF,w',he,_⟩
    .exact axe
    .exact absurd (wY he hn) (Uy n _ fz v')
   |cons c r=>
    have hS:=hi.stack;rw[hr]at hn hS mk;rcases QU (c:=c) (r:=r++[f0]) (F:=F) hi.tf hm hs with⟨o,LY,rF,he⟩|⟨y,LY,rF,w',he,htp,xk,hsz,hev,hB⟩
    .exact axe
    .obtain⟨hTc,hmc,_⟩:=hS.1.2.2.2 y;exact mk (c.finish y) r LY w' rF hTc (.inl hmc) hS.2 xk htp (hB c (r++cs)) hsz hev
theorem ap_(hF:x9 P F)(hD:zN X D){cs:aT}{Q:aS->ah->Prop}{f:aS}(hT:Jq P F f)(hm:f.mode=.run){v:ah}(h:∀τ d,∃n fz v',Gs P n f [f0] {v with tape:=τ,drawn:=d} fz [f0] v'/\fz.mode=.returning/\Q fz v')
  {w:ah} (hs:rG X Y w v) (hK:∀fz v' w',Jq P F fz->fz.mode=.returning->Q fz v'->rG X Y w' v'->sU P D Stop (G fz cs) w'):sU P D Stop (G f cs) w:=by
 refine iw λPK=>?_
 have start:SgC P F X Y D Stop cs Q ⟨f,[],{v with drawn:=0},w⟩:=⟨hT,.inl hm,trivial,hs.to v.tape 0,λτ _=>h τ 0,PK⟩
 let nx:{s//SgC P F X Y D Stop cs Q s}->{s//SgC P F X Y D Stop cs Q s}:=λs=>⟨(Uw hF hD hK s.2).choose,(Uw hF hD hK s.2).choose_spec.1⟩
 have nxs:∀s,CW P s.1 (nx s).1:=λs=>(Uw hF hD hK s.2).choose_spec.2
 let q:Nat->{s//SgC P F X Y D Stop cs Q s}:=λn=>Nat.rec ⟨_,start⟩ (λ_ s=>nx s) n
 have qs:∀n,CW P (q n).1 (q (n+1)).1:=λn=>nxs (q n)
 have mono:∀n m,n<=m->(q n).1.u.drawn<=(q m).1.u.drawn/\∀p,p<(q n).1.u.drawn->(q m).1.u.tape p=(q n).1.u.tape p:=by
  intro n m VQ
  induction m with
  |zero=>
   obtain rfl:n=0:=ag;exact⟨ay _,λ_ _=>rfl⟩
  |succ m ih=>
   rcases bK n (m+1)with qB|NV
   .exact axI
   .exact axt
 have dec:∀p,Decidable (∃n,p<(q n).1.u.drawn):=λp=>Classical.propDecidable _
 let τ:Nat->Question->Nat:=λp=>if h:∃n,p<(q n).1.u.drawn then(q h.choose).1.u.tape p else λ_=>0
 have agree:∀n p,p<(q n).1.u.drawn->τ p=(q n).1.u.tape p:=λn p hp=>by
  have hex:∃n,p<(q n).1.u.drawn:=⟨n,hp⟩;show(if h:∃n,p<(q n).1.u.drawn then(q h.choose).1.u.tape p else λ_=>0)=_;rw[kG hex];have hc:=hex.choose_spec;rcases auM n hex.choose with hle|hle
  .exact(mono n _ hle).2 p hp
  .exact axv
 have never:∀(m i:Nat)(fz:aS)(v':ah),Gs P m (q i).1.f ((q i).1.r++[f0]) {(q i).1.u with tape:=τ} fz [f0] v'->fz.mode=.returning->Q fz v'->False:=by
  intro m
  induction m with
  |zero=>exact λi fz v' h hm hq=>YU hK (q i).2 h hm hq
  |succ m ih=>
   intro i fz v' h hm hq;obtain⟨es,he⟩:=(qs i).2.2 τ λp _ hp=>agree (i+1) p hp
   exact ih (i+1) fz v' (wY he h) hm hq
 obtain⟨n,fz,v',hn,hm,hq⟩:=(q 0).2.law τ λp hp=>agree 0 p hp
 exact never n 0 fz v' hn hm hq
variable {f:aU}{k:dh}{cs:aT}{a:Act}{v:ah}{ops:Array Oper}{i:Nat}{rest:aC}{o:Oper}
theorem Uz(hF:x9 P F)(hD:zN X D){g:aU}(hg:Jr P F g){args:Array Operand}{ats:Array aG}{vs:aH}{R:ai->ah->Prop}(ho:ops[i]?=some o)(hw:Region.wanted o (yielded ops a.tmps)=true)(uZ:o.op=.call {callee:=.value (.func g),args,argTypes:=ats})(hvs:args.map a.eval=vs)(hsz:vs.size<=arity P g)
  (hc:∀τ d,Calls P g vs {v with tape:=τ,drawn:=d} λe v'=>∃y,e=.returned y/\R y v') (h:∀y v',R y v'->uN P X Y D Stop f cs (.inRegion ops rest::k) (a.put o.dst y) v'):uN P X Y D Stop f cs (.inRegion ops (i::rest)::k) a v:=by
 subst hvs;intro w hs;obtain⟨fn1,c1,S1,g1,g2,g3,g4,g5⟩:=id hg;refine .next rfl λd=>?_
 obtain⟨g1',w1',LZ,hgo,rfl,rfl,rfl⟩:=goes_elim (goes_call (P:=P) (main:=true) (b:=base f) (a:=a) (k:=k) (cs:=cs) (w:=w.at d) (rest:=rest) (K:=λg1 w1 es=>g1=G ((base g).at {tmps:=args.map a.eval++Array.replicate (fn1.ntmps-(args.map a.eval).size) undef,defers:=[]} [.code c1]) ((base f).at a (.inRegion ops (i::rest)::k)::cs)/\w1=w.at d/\es=#[]) ho hw oh uZ g1 g2 g3 ⟨rfl,rfl,rfl⟩);refine⟨_,_,_,hgo,hD.nil (ay _),?_⟩;have e0:G ((base g).at {tmps:=args.map a.eval++Array.replicate (fn1.ntmps-(args.map a.eval).size) undef,defers:=[]} [.code c1]) ((base f).at a (.inRegion ops (i::rest)::k)::cs)=G (Frame.enter P g (args.map a.eval) .normal) ((base f).at a (.inRegion ops (i::rest)::k)::cs):=by rw[<-enter_at _ g1 g3]
 rw[e0];refine ap_ (Q:=λfr v'=>∃y,R y v'/\fr.defers=[]/\fr.kind=.normal/\∃fn,P.funcs[fr.fn]?=some fn/\(results fn fr.tmps).run P v'=.ok y v') hF hD (afS hg hsz) rfl (λτ d'=>?_) (hs.at d) (λfz v' w' hT hzm hQ xk=>?_)
 .obtain⟨e,v',fr,⟨y,rfl,hR⟩,apy,NY,hlv⟩:=hc τ d' [f0];obtain⟨n,hn⟩:Steps P (lone (Frame.enter P g (args.map a.eval) .normal) [f0] {v with tape:=τ,drawn:=d'}) (lone fr [f0] v'):=apy;obtain⟨hm,hd,hk,fn,hf,hr⟩:=hlv;exact⟨n,fr,v',hn,hm,y,hR,hd,hk,fn,hf,hr⟩
 .obtain⟨y,hR,hd,hk,fn,hf,hr⟩:=hQ;refine .next rfl λd=>?_
  obtain⟨τ0,d0,Ti⟩:=xk
  have B_:yg X Y (w'.at d) {v' with tape:=λp=>w'.tape (d+(p-v'.drawn))}:=rG.re ⟨τ0,d0,Ti⟩ d v'.drawn _ λi q=>by exact ayO
  obtain⟨_,_,ht3⟩:=wG (results fn fz.tmps) v' #[] y v' ((results fn fz.tmps).events P v' #[]) (wM fn fz.tmps) Ti.nv aup;have hr2:=ht3 (λp=>w'.tape (d+(p-v'.drawn))) (λp h1 h2=>absurd h2 ag);obtain⟨w3,h1,h2,h3,h4⟩:=vP (results fn fz.tmps) (w'.at d) _ #[] y _ _ (wM fn fz.tmps) B_ hr2;refine⟨G ((base f).at (a.put o.dst y) (.inRegion ops rest::k)) cs,w3,seen P fz.fn ((results fn fz.tmps).events P v' #[]),?_,hD _ _ _ (fA (B_.size.trans h2.size.symm)) (λe he=>(h4 e (mem_seen he)).resolve_left aA),h y v' hR w3 ⟨_,_,h2⟩⟩
  have eF:((base f).at a (.inRegion ops (i::rest)::k)).finish y=(base f).at (a.put o.dst y) (.inRegion ops rest::k):=by simp only[Frame.finish,Frame.at,ho,gX,Act.put];cases o.dst<;>rfl
  obtain⟨fnx,tmps,todo,defers,mode,kind,round⟩:=fz;dsimp only at hzm hd hk hf hr h1 h4;subst hzm hd hk;show stepG P true _ (w'.at d)=_;simp only[G,stepG,unwind,hf,h1,doReturn,GStep.after];rw[eF];rfl
end
#print axioms Uz
end Go.Lf
namespace Go.Proofs.Y
open Go.Proofs.Tryz
abbrev link:Go.Conc.Lib.WgLink:={add:=78,done:=80,wait:=82,relMerge:=97,disable:=98,enable:=99,inBubble:=100,associate:=101,fatal:=102,uOr:=103,uAdd:=104,raceRead:=105,uLoad:=106,uStore:=107,disassociate:=108,semrelease:=109,acquire:=111,isAssociated:=112,uCas:=113,raceWrite:=114,semacquire:=115,orU64:=125,addU64:=126,loadU64:=127,storeU64:=128,casU64:=129,tWgP:=181,tUP:=123,tAssoc:=183,tWg:=159,tAU:=156,tU64:=154,tUint:=186,tU32:=157,tPU32:=187,tPAU:=199,tPU64:=201,tNoCopy:=151,tANoCopy:=152,tAlign64:=153}
theorem Nc:Go.Conc.Lib.WgLib prog link:=
 ⟨func78,func80,func82,func97,func98,func99,func100,func101,func102,func103,func104,func105,func106,func107,func108,func109,func111,func112,func113,func114,func115,func125,func126,func127,func128,func129,underlying181,Tryz.runUnderlying181,Tryz.sizeOf181,Tryz.isAgg181,Tryz.zeroValue181,underlying123,Tryz.runUnderlying123,Tryz.sizeOf123,Tryz.isAgg123,Tryz.zeroValue123,underlying183,Tryz.runUnderlying183,Tryz.sizeOf183,Tryz.isAgg183,Tryz.zeroValue183,underlying159,Tryz.runUnderlying159,Tryz.sizeOf159,Tryz.isAgg159,Tryz.zeroValue159,underlying156,Tryz.runUnderlying156,Tryz.sizeOf156,Tryz.isAgg156,Tryz.zeroValue156,underlying154,Tryz.runUnderlying154,Tryz.sizeOf154,Tryz.isAgg154,Tryz.zeroValue154,underlying186,Tryz.runUnderlying186,Tryz.sizeOf186,Tryz.isAgg186,Tryz.zeroValue186,underlying157,Tryz.runUnderlying157,Tryz.sizeOf157,Tryz.isAgg157,Tryz.zeroValue157,underlying187,Tryz.runUnderlying187,Tryz.sizeOf187,Tryz.isAgg187,Tryz.zeroValue187,underlying199,Tryz.runUnderlying199,Tryz.sizeOf199,Tryz.isAgg199,Tryz.zeroValue199,underlying201,Tryz.runUnderlying201,Tryz.sizeOf201,Tryz.isAgg201,Tryz.zeroValue201,underlying0,Tryz.runUnderlying0,Tryz.sizeOf0,Tryz.isAgg0,Tryz.zeroValue0,underlying3,Tryz.runUnderlying3,Tryz.sizeOf3,Tryz.isAgg3,Tryz.zeroValue3,underlying4,Tryz.runUnderlying4,Tryz.sizeOf4,Tryz.isAgg4,Tryz.zeroValue4,underlying9,Tryz.runUnderlying9,Tryz.sizeOf9,Tryz.isAgg9,Tryz.zeroValue9,underlying20,Tryz.runUnderlying20,Tryz.sizeOf20,Tryz.isAgg20,Tryz.zeroValue20,underlying21,Tryz.runUnderlying21,Tryz.sizeOf21,Tryz.isAgg21,Tryz.zeroValue21,ak,ak⟩
end Go.Proofs.Y
namespace Go.Proofs.Y
open Go.Proofs.Tryz
open Go.Conc Go.ConcN Go.RowKit Go.Gh Go.Conc.Lib Go.ConcR.Gen Go.ConcN.Gen
open Go.ConcR (Payload)
theorem Bi{P:aP}{main:Bool}{R:ah->ah->Prop}{D:ah->ah->aN->Prop}{fn:aU}{ops:Array Oper}{Q:Exit->Act->ah->Prop}{S:ah->Prop}{nf lst i k:Nat}{l:Array Bool}{a:Act}{w:ah}{o:Oper}
  (hr:Region.ready .any ops l=[i]) (ho:ops[i]?=some o) (hw:Region.wanted o (yielded ops a.tmps)=true)
  (h:∀w₁,R w w₁->∀K:Act->ah->Prop,(∀a' w',(D w₁ w' (listed P fn a o w₁)/\(i≠lst->S w')/\IE P main R D fn ops nf Q S lst k (l.setIfInBounds i true) a' w')->K a' w')->uponK o a K ((execOp a.eval o).run P w₁)):IE P main R D fn ops nf Q S lst (k+1) l a w:=
 Gq hr ⟨o,ho,.inl ⟨hw,λw₁ r=>h w₁ r _ λ_ _ x=>x⟩⟩
section
variable [Payload][qR]{main:Bool}{Wg C n B:Nat}{Cl:Nat->Prop}
omit [Payload]in
theorem Bs.zS{w:ah}(h:Bs C B w){b:Nat}(hb:Sj Wg C B w b):b<w.heap.size:=hb.elim (h.lt ·) λx=>bH x.1 h.hB
omit [qR]in
theorem Uu{w:ah}(hp:PayAt C n w){i:Nat}(hi:i<n)(v:ai):Has C i v (w.setCell ⟨C,i,none⟩ v):=by obtain⟨arr,h1,h2⟩:=hp;simp[Has,World.cell?,heap_set w h1,h2,hi]
theorem YT{w:ah}(hp:PayAt C n w)(hC:C<w.heap.size){i:Nat}(hi:Cl i)(v:ai){es:aN}(he:∀e∈es,∃wr,e=⟨.cell ⟨C,i,none⟩,wr,false⟩):Dg Wg C n B Cl w (w.setCell ⟨C,i,none⟩ v) es:=by
 obtain⟨arr,h1,h2⟩:=hp;refine⟨eY,rfl,rfl,λb _ _ hb=>dA _ _ _ _ hb,λj hj=>?_,λ_=>⟨_,heap_set w h1 i v,jE⟩,λe LM=>?_⟩
 .simp only[World.cell?,heap_set w h1,h1];rw[kZ (λe:i=j=>hj (e▸hi))]
 .obtain⟨wr,rfl⟩:=he e LM;exact⟨_,wr,rfl,by rw[sW];exact hC,.inr (.inr (.inl ⟨i,rfl,hi⟩))⟩
def Xo(C L:Nat)(res:Nat->aC)(idx:Nat)(v:ai)(w:ah):Prop:=∃N,v=.slice (some ⟨N,0,none⟩) L L/\qQ w N/\N≠C/\w.heap[N]?=some (.cells (tK (res idx)) 5)
omit [qR]in
theorem Xo.rely{w w₁:ah}{L idx:Nat}{res:Nat->aC}{v:ai}(h:Xo C L res idx v w)(r:Ro Wg C n B Cl w w₁):Xo C L res idx v w₁:=by obtain⟨N,h1,h2,h3,h4⟩:=h;exact⟨N,h1,(r.yx _).2 h2,h3,(r.mine _ h2).trans h4⟩
structure WD1(C L:Nat)(res:Nat->aC)(idx:Nat)(v:ai)(w:ah):Prop where
 wp:Xo C L res idx v w
 has:Has C idx v w
omit [qR]in
theorem WD1.rely{w w₁:ah}{L idx:Nat}{res:Nat->aC}{v:ai}(h:WD1 C L res idx v w)(r:Ro Wg C n B (· =idx) w w₁):WD1 C L res idx v w₁:=⟨h.wp.rely r,(r.cell idx rfl).trans h.has⟩
end
section
variable [Payload][qR]{main:Bool}{Wg C n B:Nat}{Cl:Nat->Prop}
structure Cap where
 ba:Nat
 bj:Nat
 bv:Nat
 bW:Nat
 oW:Nat
 cW:Nat
 br:Nat
 oR:Nat
 cR:Nat
 bd:Nat
 bD:Nat
 oD:Nat
 cD:Nat
structure WIn(Wg C n B:Nat)(c:Cap)(k L idx:Nat)(ws:aC)(cs:List Um)(w:ah):Prop where
 bs:Bs C B w
 pay:PayAt C n w
 ra:Sj Wg C B w c.ba
 va:w.cell? ⟨c.ba,0,none⟩=some (.slice (some ⟨C,0,none⟩) k k)
 rj:Sj Wg C B w c.bj
 vj:w.cell? ⟨c.bj,0,none⟩=some (.int .i64 ((idx:Nat):Int))
 rv:Sj Wg C B w c.bv
 vv:w.cell? ⟨c.bv,0,none⟩=some (.slice (some ⟨c.bW,c.oW,none⟩) k c.cW)
 rW:Sj Wg C B w c.bW
 vW:w.cell? ⟨c.bW,c.oW+idx,none⟩=some (.slice (some ⟨c.br,c.oR,none⟩) k c.cR)
 rd:Sj Wg C B w c.bd
 vd:w.cell? ⟨c.bd,0,none⟩=some (.slice (some ⟨c.bD,c.oD,none⟩) k c.cD)
 cin:CIn Wg C B c.br c.oR c.bD c.oD L ws cs w
theorem WIn.ex{w w₁:ah}{c:Cap}{k L idx:Nat}{ws:aC}{cs:List Um}(h:WIn Wg C n B c k L idx ws cs w)(hb:Bs C B w₁)(r:Ex Wg C n B Cl (λ_=>False) w w₁):WIn Wg C n B c k L idx ws cs w₁:=by
 have st:∀{b:Nat},Sj Wg C B w b->∀o,w₁.cell? ⟨b,o,none⟩=w.cell? ⟨b,o,none⟩:=λhb o=>ava
 exact⟨hb,r.pay h.pay,r.rdb h.ra,(st h.ra _).trans h.va,r.rdb h.rj,(st h.rj _).trans h.vj,r.rdb h.rv,(st h.rv _).trans h.vv,r.rdb h.rW,(st h.rW _).trans h.vW,r.rdb h.rd,(st h.rd _).trans h.vd,h.cin.ex r⟩
theorem WIn.rely{w w₁:ah}{c:Cap}{k L idx:Nat}{ws:aC}{cs:List Um}(h:WIn Wg C n B c k L idx ws cs w)(r:Ro Wg C n B Cl w w₁):WIn Wg C n B c k L idx ws cs w₁:=h.ex (h.bs.rely r) r.ex
def w0:aS:=baseD 79
noncomputable def YV:aS:={(default:aS)with fn:=prog.funcs.size,defers:=[],mode:=.panicking [goexitEntry]}
noncomputable def aia:Code:=Tryz.f79.body.getD .skip
def QJ(Wg:Nat)(c:Cap):aH:=#[.pointer (some ⟨Wg,0,none⟩),.pointer (some ⟨c.bv,0,none⟩),.pointer (some ⟨c.bj,0,none⟩),.pointer (some ⟨c.bd,0,none⟩),.pointer (some ⟨c.ba,0,none⟩)]
def aaz(Wg:Nat)(c:Cap):Deferred:={target:=.fn (.func 79) (QJ Wg c),args:=#[]}
omit [Payload][qR]in
theorem an2(c:Cap)(w:ah):stepG prog false (born prog (aaz Wg c)) w=.go (G (w0.at ⟨QJ Wg c++Array.replicate 9 undef,[]⟩ [.code aia]) [YV]) w #[]:=by simp[born,aaz,QJ,stepG,unwind,callDeferred,invoke,callFunc,func79,Tryz.f79,seen,GStep.after,G,Frame.enter,Frame.at,w0,baseD,YV,aia]
omit [Payload][qR]in
theorem aln(T:aH):QuitsD prog 2 0 (G {w0.at ⟨T,[]⟩ []with mode:=.returning} [YV]):=by
 refine QuitsD.ctl (g':=G YV []) rfl (λw=>?_) ?_
 .simp[G,stepG,unwind,doReturn,results,Frame.at,w0,baseD,YV,func79,Tryz.f79,seen,GStep.after,goexitEntry]
 refine QuitsD.ctl (g':={G YV []with status:=.finished}) rfl (λw=>?_) ⟨rfl,rfl⟩;simp[G,stepG,unwind,YV,goexitEntry,Frame.catches];rfl
theorem arw(k L:Nat)(V4:0<k)(hk:k<=128)(hL:L<=140737488355328)(idx:Nat)(akO:idx<k):∃m,∀(w:ah)(c:Cap)(ws:aC)(cs:List Um)(res:Nat->aC),Dc ws k->cs.length=k->(∀x∈ws,x<256)->(∀c∈cs,Dc c.ys L/\∀y∈c.ys,y<256)->
  res idx=comb (E_ ws cs) (List.replicate L 0)->WIn Wg C k B c k L idx ws cs w->Wk prog link.tWg Wg C k B (Xo C L res) idx m (born prog (aaz Wg c)) w:=by
 obtain⟨q,hq⟩:=Xp (main:=false) (Wg:=Wg) (C:=C) (n:=k) (B:=B) (Cl:=(· =idx)) k L V4 hk hL;refine⟨?m,λw c ws cs res hlw hlc hws hcs F9 hF=>?_⟩
 case m=>exact(3+(10*(q+3)+1+1))+1+1+1+1+1
 have hiI:(idx:Int)<(k:Int):=ag;have T:=qj (Wg:=Wg) (C:=C) (n:=k) (B:=B) (Cl:=(· =idx));unfold Wk;refine aQ rfl λw₁ h₁=>?_
 replace hF:=hF.rely h₁;clear h₁;rw[an2];refine⟨T.idle _,?_⟩;simp only[QJ,aia,Tryz.f79,bf,eU,eQ,eH,eP,dw,df];refine aQ rfl λw₁ h₁=>?_
 replace hF:=hF.rely h₁;clear h₁;rw[aX];refine⟨T.idle _,?_⟩;refine aQ rfl λw₁ h₁=>?_
 replace hF:=hF.rely h₁;clear h₁;rw[dW];refine⟨T.idle _,?_⟩;simp only[fH,dQ,d_,bJ,List.range,List.range.loop];refine aQ rfl λw₁ h₁=>?_
 replace hF:=hF.rely h₁;clear h₁;rw[stepG_defer rfl rfl aB rfl];refine⟨T.idle _,?_⟩;walk_nrm;refine aQ rfl λw₁ h₁=>?_
 replace hF:=hF.rely h₁;clear h₁;rw[bg];refine⟨T.idle _,?_⟩;refine wpC_goes (m:=3) (Q:=λe a' w'=>e=.normal/\a'.defers=[dcall 80 #[.pointer (some ⟨Wg,0,none⟩)]]/\∃v,WD1 C L res idx v w') (Aj T aeI (S:=WIn Wg C k B c k L idx ws cs) (lst:=9) (nf:=q) ak (λw₁ h₁=>?_)) rfl aB ?_
 .replace hF:WIn Wg C k B c k L idx ws cs {w₁ with drawn:=w₁.drawn+1}:=by
   have:=hF.rely h₁;exact⟨⟨this.bs.tg,this.bs.hC,this.bs.hB,this.bs.ow⟩,this.pay,this.ra,this.va,this.rj,this.vj,this.rv,this.vv,this.rW,this.vW,this.rd,this.vd,⟨this.cin.rw,this.cin.lw,this.cin.rc,this.cin.lc,this.cin.hw,this.cin.hc,this.cin.yf⟩⟩
  clear h₁;have NW:∀x y,WIn Wg C k B c k L idx ws cs x->Ro Wg C k B (· =idx) x y->WIn Wg C k B c k L idx ws cs y:=λ_ _ h r=>h.rely r
  have RS:∀(a:Act)(x y:ah),(Exit.normal=.normal/\a.defers=[dcall 80 #[.pointer (some ⟨Wg,0,none⟩)]]/\∃v,WD1 C L res idx v x)->Ro Wg C k B (· =idx) x y->(Exit.normal=.normal/\a.defers=[dcall 80 #[.pointer (some ⟨Wg,0,none⟩)]]/\∃v,WD1 C L res idx v y):=λa x y ⟨h1,h2,v,h3⟩ r=>⟨h1,h2,v,h3.rely r⟩
  generalize{w₁ with drawn:=w₁.drawn+1}=w2 at hF⊢;simp only[fH,dQ,d_,Nat.reduceAdd,bJ]
  (co_applyP su T NW RS (i:=0) rfl ak ak ak ak ak (.inl ⟨aF,λ_ hw=>⟨run_eq_of ?aav,?Uo⟩⟩) hF ?ah5
   case aav=>
    intro Kq uI
    (have h1:=hw.va)
    exact axa
   case Uo=>
    (have h1:=hw.va)
    (refine tH hw.ra (hw.bs.zS hw.ra) ?_;co_evs (exact⟨_,rfl,rfl⟩))
   try walk_nrm)
  (co_applyP su T NW RS (i:=1) rfl ak ak ak ak ak (.inl ⟨aF,λ_ hw=>⟨run_eq_of ?aaw,?Ur⟩⟩) hF ?ah6
   case aaw=>
    intro Kq uI
    (have h1:=hw.vj)
    exact axa
   case Ur=>
    (have h1:=hw.vj)
    (refine tH hw.rj (hw.bs.zS hw.rj) ?_;co_evs (exact⟨_,rfl,rfl⟩))
   try walk_nrm)
  (co_applyP su T NW RS (i:=2) rfl ak ak ak ak ak (.inl ⟨aF,λ_ hw=>⟨run_eq_of ?aax,?Us⟩⟩) hF ?ah7
   case aax=>
    intro Kq uI
    (have h1:=hw.vv)
    exact axa
   case Us=>
    (have h1:=hw.vv)
    (refine tH hw.rv (hw.bs.zS hw.rv) ?_;co_evs (exact⟨_,rfl,rfl⟩))
   try walk_nrm)
  (co_applyP su T NW RS (i:=3) rfl ak ak ak ak ak (.inl ⟨aF,λ_ hw=>⟨run_eq_of ?aay,?Ut⟩⟩) hF ?ah8
   case aay=>
    intro Kq uI
    (have h1:=hw.vj)
    exact axa
   case Ut=>
    (have h1:=hw.vj)
    (refine tH hw.rj (hw.bs.zS hw.rj) ?_;co_evs (exact⟨_,rfl,rfl⟩))
   try walk_nrm)
  (co_applyP su T NW RS (i:=4) rfl ak ak ak ak ak (.inl ⟨aF,λ_ hw=>⟨run_eq_of ?ah9,?acV⟩⟩) hF ?an1
   case ah9=>
    intro Kq uI
    (skip)
    exact axa
   case acV=>
    (skip)
    (co_still T)
   try walk_nrm)
  (co_applyP su T NW RS (i:=5) rfl ak ak ak ak ak (.inl ⟨aF,λ_ hw=>⟨run_eq_of ?aqa,?an3⟩⟩) hF ?arJ
   case aqa=>
    intro Kq uI
    (have h1:=hw.vW)
    exact axa
   case an3=>
    (have h1:=hw.vW)
    (refine tH hw.rW (hw.bs.zS hw.rW) ?_;co_evs (exact⟨_,rfl,rfl⟩))
   try walk_nrm)
  (co_applyP su T NW RS (i:=6) rfl ak ak ak ak ak (.inl ⟨aF,λ_ hw=>⟨run_eq_of ?aqb,?an4⟩⟩) hF ?arK
   case aqb=>
    intro Kq uI
    (have h1:=hw.vd)
    exact axa
   case an4=>
    (have h1:=hw.vd)
    (refine tH hw.rd (hw.bs.zS hw.rd) ?_;co_evs (exact⟨_,rfl,rfl⟩))
   try walk_nrm)
  refine Gq (i:=7) ak ⟨_,rfl,.inr (.inl ⟨aF,_,_,_,(λv w'=>∃N,v=.slice (some ⟨N,0,none⟩) L L/\CG Wg C k B (· =idx) w2 N (comb (E_ ws cs) (List.replicate L 0)) w'),rfl,by walk_nrm;exact hq w2 c.br c.oR c.cR c.bD c.oD c.cD ws cs hlw hlc hws hcs hF.bs hF.cin,?_⟩)⟩;rintro v w' ⟨N,rfl,hg⟩;have hN:N≠C:=awX;replace hF:=hF.ex hg.bs hg.ex;have hwp:Xo C L res idx (.slice (some ⟨N,0,none⟩) L L) w':=⟨N,rfl,hg.mn,hN,by rw[F9];exact hg.hx⟩;clear hg;refine⟨λ_=>hF,?_⟩;walk_nrm;refine Bi (i:=8) ak rfl aF (λw₁ hR K hK=>?_);replace hF:=hF.rely hR;replace hwp:=hwp.rely hR;clear hR;go_simp;refine hK _ _ ⟨?_,λ_=>hF,?_⟩
  .co_still T
  clear hK K;walk_nrm;refine Bi (i:=9) ak rfl aF (λw₁ hR K hK=>?_);replace hF:=hF.rely hR;replace hwp:=hwp.rely hR;clear hR
  obtain⟨u,hu1,hu2⟩:∃u,w₁.cell? ⟨C,idx,none⟩=some u/\w₁.frozen? ⟨C,idx,none⟩=false:=by exact ayn
  go_simp
  try(unfold stored;go_simp)
  refine hK _ _ ⟨?_,λh=>absurd rfl h,?_⟩
  .refine YT (Cl:=(· =idx)) hF.pay hF.bs.hC (i:=idx) rfl _ ?_
   co_evs (exact⟨_,rfl⟩)
  clear hK K;walk_nrm;refine KH ak ⟨rfl,rfl,.slice (some ⟨N,0,none⟩) L L,⟨N,rfl,?_,hN,?_⟩,Uu hF.pay akO _⟩ _
  .exact ayQ
  .exact ax_
 .rintro e a' w' ⟨rfl,hd,v,hk⟩;show Goes _ _ _ _ _ 3 (G (w0.at a' []) [YV]) w';refine aQ rfl λw₁ h₁=>?_
  replace hk:=hk.rely h₁;clear h₁;rw[stepG_end];refine⟨T.idle _,?_⟩;refine aQ rfl λw₁ h₁=>?_
  replace hk:=hk.rely h₁;clear h₁;rw[stepG_unwind_enter hd func80 (nm_done link) rfl];refine⟨T.idle _,?_⟩;refine dC λw₁ h₁=>?_
  replace hk:=hk.rely h₁;clear h₁;refine⟨rfl,v,hk.wp,hk.has,λW h1 h2=>?_⟩;have hA:=@doneN _ link prog Nc NoF NoF Wg C k 0 (idx+1) v;have:=hA (c:={w0.at ⟨a'.tmps,[]⟩ []with mode:=.returning}) (cs:=[YV]) (qt:=2) rfl (aln a'.tmps) W ⟨h1,jE⟩;exact this
end
end Go.Proofs.Y
namespace Go.Proofs.Y
open Go.Proofs.Tryz
open Go.Conc Go.RowKit Go.Gh
open Go.ConcR (Payload)
def aib(w:ah)(N L:Nat)(bs:aW)(co bo:Nat)(ys:aC):Prop:=
 (Builtin.copy_ #[24,24] 3 #[.slice (some ⟨N,0,none⟩) L L,.slice bs L co]).run prog w=.ok (goInt L) (w.setRow N (tK ys))/\
  ∀e∈(Builtin.copy_ #[24,24] 3 #[.slice (some ⟨N,0,none⟩) L L,.slice bs L co]).events prog w #[],∃b wr,e=⟨.cell b,wr,false⟩/\(b.block=N\/(b.block=bo/\wr=false))
theorem UA(ys:aC):∀v∈(tK ys).toList,v.oneCell'=true:=by intro v hv;obtain⟨i,hi⟩:=pM.1 (Array.mem_toList_iff.1 hv);rw[yz]at hi;obtain⟨y,_,rfl⟩:=dU.1 hi;rfl
theorem alo(w:ah)(N L:Nat)(bs:aW)(co bo oo:Nat)(ys:aC)(hs:0<L->bs=some ⟨bo,oo,none⟩)(hl:ys.length=L)(hc:∀i y,ys[i]?=some y->w.cell? ⟨bo,oo+i,none⟩=some (.int .u8 ((y:Nat):Int)))
  {cur:aH} (We:cur.size=L) (hg:w.heap[N]?=some (.cells cur 5)):aib w N L bs co bo ys:=by
 have hu:=underlying24;obtain⟨i0,hi,_,wW,_⟩:=cO Tz;have hsz:(prog.info? 5).map (·.size)=some 1:=by rw[hi];simp[wW]
 have YA:(tK ys).size=L:=by simp[tK,hl]
 rcases gy L with h0|h0
 .subst h0;have hn:ys=[]:=jQ hl;subst hn;have e0:cur=tK []:=by rw[Array.eq_empty_of_size_eq_zero We];rfl
  rw[e0]at hg;refine⟨?_,?_⟩
  .rw[setRow_self w N _ _ _ hg];cases bs<;>simp[Builtin.copy_,run_underlying hu,Builtin.lenOf,Builtin.firstCells,sizeOf,typeInfo,hi,loadCells,loadCellsFrom,storeCells]
  .intro e he;cases bs<;>simp[Builtin.copy_,run_underlying hu,Builtin.lenOf,Builtin.firstCells,sizeOf,typeInfo,hi,loadCells,loadCellsFrom,storeCells,go_sem]at he
 .obtain rfl:=hs h0
  have akM:∀j v,(tK ys).toList[j]?=some v->w.cell? ((⟨bo,oo,none⟩:Addr).add j)=some v:=by intro j v hj;rw[av7,yz]at hj;obtain⟨y,hy,rfl⟩:=dU.1 hj;rw[add_plain];exact hc j y hy
  refine⟨?_,?_⟩
  .have:=run_copy_row prog w 24 24 3 5 N 0 L L ⟨bo,oo,none⟩ L co cur 5 (tK ys).toList hu hsz hg (by simp[YA]) akM (by simp[YA,We]) (UA ys);have h1:List.drop L cur.toList=[]:=auV (by simp[We]);simpa[YA,h1]using this
  .intro e he;have hlr:=run_loadCells_list (P:=prog) w ⟨bo,oo,none⟩ (tK ys).toList akM;have Je:(tK ys).toList.length=L:=by simp[YA]
   rw[Je]at hlr;simp[Builtin.copy_,run_underlying hu,Builtin.lenOf,Builtin.firstCells,sizeOf,typeInfo,hi,wW,go_sem]at he;rw[show(loadCellsFrom ⟨bo,oo,none⟩ 0 L #[]).run prog w=.ok (tK ys) w from by simpa[loadCells]using hlr]at he;simp only[Result.evThen_ok]at he;rcases FQ N 5 (tK ys).toList 0 cur w _ hg (by simp[YA,We]) (UA ys) e he with h|⟨b,rfl,hb⟩
   .rcases G9 ⟨bo,oo,none⟩ L 0 #[] w #[] (λj hj=>⟨_,akM (0+j) ((tK ys)[j]' ag) (by simp[YA,hj])⟩) e h with h|⟨b,rfl,hb⟩
    .simp at h
    .exact⟨b,false,rfl,.inr ⟨hb,rfl⟩⟩
   .exact⟨b,true,rfl,.inl hb⟩
section
variable [Payload][qR]{main:Bool}{Wg C n B:Nat}{Cl:Nat->Prop}
theorem alp{w:ah}{N bo:Nat}{c':aH}(hm:qQ w N)(hne:N≠C)(hb:N<w.heap.size)(hr:Sj Wg C B w bo)(hbo:bo<w.heap.size){es:aN}
  (he:∀e∈es,∃b wr,e=⟨.cell b,wr,false⟩/\(b.block=N\/(b.block=bo/\wr=false))):Dg Wg C n B Cl w (w.setRow N c') es:=by
 refine⟨iR,rfl,rfl,λb _ A8 _=>ui w c' (λe=>A8 (e▸hm)),λi _=>Ak w c' (dE hne),λ⟨cs,h1,h2⟩=>⟨cs,(ui w c' (dE hne)).trans h1,h2⟩,λe LM=>?_⟩;obtain⟨b,wr,rfl,Ah|⟨Ah,rfl⟩⟩:=he e LM
 .exact⟨b,wr,rfl,iR,.inl (by rw[Ah];exact hm)⟩
 .exact⟨b,false,rfl,iR,hr.elim (λx=>.inl (by rw[Ah];exact x)) λx=>.inr (.inr (.inr (by rw[Ah];exact⟨x.1,x.2.1,x.2.2.1,rfl,x.2.2.2⟩)))⟩
theorem aic(L:Nat)(hL:L<=140737488355328):∃q,∀(w:ah)(bs:aW)(bo oo co:Nat)(ys:aC),(0<L->bs=some ⟨bo,oo,none⟩)->Dc ys L->Bs C B w->Sj Wg C B w bo->(∀i y,ys[i]?=some y->w.cell? ⟨bo,oo+i,none⟩=some (.int .u8 ((y:Nat):Int)))->
  CallsC prog main (Ro Wg C n B Cl) (Dg Wg C n B Cl) 77 #[.slice bs L co] q w λv w'=>∃N,v=.slice (some ⟨N,0,none⟩) L L/\CG Wg C n B Cl w N ys w':=by
 obtain⟨i0,hi,xY,wW,vV⟩:=cO Tz
 have hmk:∀w:ah,(Instr.makeSlice 24 (.int .i64 (L:Int)) (.int .i64 (L:Int))).run prog w=.ok (.slice (some ⟨w.heap.size,0,none⟩) L L) (w.alloc (.cells (madeCells #[.int .u8 0] L) 5)):=λw=>by exact ax2
 have hme:∀(w:ah)(es:aN),(Instr.makeSlice 24 (.int .i64 (L:Int)) (.int .i64 (L:Int))).events prog w es=es:=λw es=>
  events_make (P:=prog) w 24 5 i0 (.int .u8 0) underlying24 hi xY .i64 .i64 (L:Int) (L:Int) ag ag jv ag avk es
 clear hi xY wW vV;co_apply Exists.intro;intro w bs bo oo co ys BR hl hb hr hcs;co_apply callsC_of_wpC func77 aF rfl;simp only[ntmps77,fH,dQ,d_,Nat.reduceAdd,Nat.reduceSub,eU,eQ,eH,eP,dw,df];have hF:CF Wg C n B Cl w w:=⟨hb,.refl w⟩;co_apply cu qj;co_reg qj;co_op CF.rely hF (co_quiet qj);co_apply b_ qj;co_then;co_apply cu qj;co_reg qj;co_op CF.rely hF (co_quiet qj);co_op CF.rely hF (co_quiet qj)
 co_opw CF.rely hF (skip) (rw[listed_nil lF];exact zx hF.bs.hC _ rfl)
 replace hF:=hF.alloc L;generalize hN:Array.size (World.heap _)=N at hF⊢;clear hN;co_op CG.rely hF (co_quiet qj);co_apply b_ qj;co_then;co_apply cu qj;co_reg qj;co_op CG.rely hF (co_quiet qj);co_op CG.rely hF (co_quiet qj);have hN1:=hF.lo;have Wh:=hb.hC;co_apply opsC_cons_k rfl aF;intro w1 hR K hK;replace hF:=hF.rely hR;clear hR;have hcp:aib w1 N L bs co bo ys:=alo w1 N L bs co bo oo ys BR hl (λi y hy=>by rw[<-hcs i y hy];simp only[World.cell?,hF.ex.stands hr id]) (by simp[tK]) hF.hx;obtain⟨V5,hc2⟩:=hcp;go_simp;refine hK _ _ ⟨?_,?_⟩
 .refine alp hF.mn ag (hF.bs.lt hF.mn) (hF.ex.rdb hr) (hF.bs.zS (hF.ex.rdb hr)) ?_;intro e he;have hm:=mem_listed he;simp[go_sem]at hm;exact hc2 e hm
 clear hK K V5 hc2;replace hF:CG Wg C n B Cl w N ys (w1.setRow N (tK ys)):=⟨hF.bs.row _ _,acS hF.ex hb hN1 _,hN1,sD (w:=w1) (w':=w1.setRow N (tK ys)) rfl iR hF.mn,Ov _ hF.hx⟩
 try walk_nrm
 co_apply b_ qj;co_then;co_apply cu qj;co_reg qj;co_op CG.rely hF (co_quiet qj);co_op CG.rely hF (co_quiet qj);co_apply b_ qj;co_then;co_apply wpC_ret qj;exact axi
end
end Go.Proofs.Y
namespace Go.Proofs.Y
open Go.Proofs.Tryz
open Go.Conc Go.ConcN Go.RowKit Go.Gh
open Go.ConcR (Payload)
def Lo[qR](Wg C B b:Nat):Prop:=b<B/\b≠Wg/\b≠C/\¬qR.old b
structure Env where
 ba:Nat
 bv:Nat
 bW:Nat
 oW:Nat
 cW:Nat
 bd:Nat
 bD:Nat
 oD:Nat
 cD:Nat
 bp:Nat
 op:Nat
 cp:Nat
 br:Nat->Nat
 oR:Nat->Nat
 cR:Nat->Nat
 ws:Nat->aC
 px:Nat->Nat
 cs:List Um
 h0:Nat->aZ
def Env.Dp(E:Env)(k t:Nat):Prop:=t<k/\E.px t≠t
def Env.cap(E:Env)(bj idx:Nat):Cap:={ba:=E.ba,bj:=bj,bv:=E.bv,bW:=E.bW,oW:=E.oW,cW:=E.cW,br:=E.br idx,oR:=E.oR idx,cR:=E.cR idx,bd:=E.bd,bD:=E.bD,oD:=E.oD,cD:=E.cD}
def Env.res(E:Env)(L t:Nat):aC:=comb (E_ (E.ws t) E.cs) (List.replicate L 0)
structure QV(E:Env)(k L:Nat):Prop where
 k0:0<k
 k1:k<=128
 hL:L<=140737488355328
 len:E.cs.length=k
 wl:∀t,t<k->Dc (E.ws t) k/\∀x∈E.ws t,x<256
 cl:∀c∈E.cs,Dc c.ys L/\∀y∈c.ys,y<256
 pb:∀t,t<k->E.px t<128
structure alq[qR](Wg C B k L:Nat)(E:Env)(w:ah):Prop where
 la:Lo Wg C B E.ba
 lv:Lo Wg C B E.bv
 lW:Lo Wg C B E.bW
 ld:Lo Wg C B E.bd
 lD:Lo Wg C B E.bD
 lp:Lo Wg C B E.bp
 lr:∀t,t<k->Lo Wg C B (E.br t)
 va:w.cell? ⟨E.ba,0,none⟩=some (.slice (some ⟨C,0,none⟩) k k)
 vv:w.cell? ⟨E.bv,0,none⟩=some (.slice (some ⟨E.bW,E.oW,none⟩) k E.cW)
 vd:w.cell? ⟨E.bd,0,none⟩=some (.slice (some ⟨E.bD,E.oD,none⟩) k E.cD)
 vW:∀t,t<k->w.cell? ⟨E.bW,E.oW+t,none⟩=some (.slice (some ⟨E.br t,E.oR t,none⟩) k (E.cR t))
 hw:∀t,t<k->∀j x,(E.ws t)[j]?=some x->w.cell? ⟨E.br t,E.oR t+j,none⟩=some (.int .u8 ((x:Nat):Int))
 hc:∀j c,E.cs[j]?=some c->w.cell? ⟨E.bD,E.oD+j,none⟩=some (.slice c.bs L c.co)
 hp0:∀t,t<k->w.cell? ⟨E.bp,E.op+t*2,none⟩=some (.int .i64 ((E.px t:Nat):Int))
 QI:∀t c,E.cs[t]?=some c->w.cell? ⟨E.bp,E.op+t*2+1,none⟩=some (.slice c.bs L c.co)
 yf:∀c∈E.cs,Lo Wg C B c.bo/\(0<L->c.bs=some ⟨c.bo,c.oo,none⟩)/\∀i y,c.ys[i]?=some y->w.cell? ⟨c.bo,c.oo+i,none⟩=some (.int .u8 ((y:Nat):Int))
 std:∀b,b<B->b≠Wg->b≠C->w.heap[b]?=E.h0 b
theorem alq.Ag[qR]{Wg C B k L:Nat}{E:Env}{w w₁:ah}(h:alq Wg C B k L E w)(st:∀b,b<B->b≠Wg->b≠C->w₁.heap[b]?=w.heap[b]?):alq Wg C B k L E w₁:=by
 have st0:=st;have st:∀{b:Nat},Lo Wg C B b->∀o,w₁.cell? ⟨b,o,none⟩=w.cell? ⟨b,o,none⟩:=λhb o=>by simp only[World.cell?,st _ hb.1 hb.2.1 hb.2.2.1]
 exact⟨h.la,h.lv,h.lW,h.ld,h.lD,h.lp,h.lr,(st h.la _).trans h.va,(st h.lv _).trans h.vv,(st h.ld _).trans h.vd,λt ht=>(st h.lW _).trans (h.vW t ht),λt ht j x e=>(st (h.lr t ht) _).trans (h.hw t ht j x e),
  λj c e=>(st h.lD _).trans (h.hc j c e),λt ht=>(st h.lp _).trans (h.hp0 t ht),λt c e=>(st h.lp _).trans (h.QI t c e),λc hc=>let⟨h1,h2,h3⟩:=h.yf c hc;⟨h1,h2,λi y e=>(st h1 _).trans (h3 i y e)⟩,λb h1 h2 h3=>(st0 b h1 h2 h3).trans (h.std b h1 h2 h3)⟩
section
variable [Payload][qR]{main:Bool}{Wg C k B L:Nat}{E:Env}
structure SF(Wg C k B L:Nat)(E:Env)(s0 j:Nat)(w:ah):Prop where
 bs:Bs C B w
 pay:PayAt C k w
 low:alq Wg C B k L E w
 sb:C<s0/\B<=s0/\s0<=w.heap.size
 dn:∀t c,t<j->¬E.Dp k t->E.cs[t]?=some c->∃N,N<s0/\qQ w N/\(N≠C/\B<=N)/\Has C t (.slice (some ⟨N,0,none⟩) L L) w/\w.heap[N]?=some (.cells (tK c.ys) 5)
theorem SF.ex{s0 j:Nat}{w w₁:ah}{S:Nat->Prop}(h:SF Wg C k B L E s0 j w)(hb:Bs C B w₁)(r:Ex Wg C k B (λi=>¬E.Dp k i) S w w₁)(hS:∀b,S b->s0<=b):SF Wg C k B L E s0 j w₁:=by refine⟨hb,r.pay h.pay,h.low.Ag r.low,⟨h.sb.1,h.sb.2.1,bF h.sb.2.2 r.size⟩,λt c ht hm hc=>?_⟩;obtain⟨N,h1,h2,h3,h4,h5⟩:=h.dn t c ht hm hc;exact⟨N,h1,r.own N h2,h3,(r.cell t hm).trans h4,(r.mine N h2 (λhs=>by have:=hS N hs;omega)).trans h5⟩
theorem SF.rely{s0 j:Nat}{w w₁:ah}(h:SF Wg C k B L E s0 j w)(r:Ro Wg C k B (λi=>¬E.Dp k i) w w₁):SF Wg C k B L E s0 j w₁:=by refine⟨h.bs.rely r,r.pay h.pay,h.low.Ag r.low,⟨h.sb.1,h.sb.2.1,bF h.sb.2.2 r.size⟩,λt c ht hm hc=>?_⟩;obtain⟨N,h1,h2,h3,h4,h5⟩:=h.dn t c ht hm hc;exact⟨N,h1,(r.yx N).2 h2,h3,(r.cell t hm).trans h4,(r.mine N h2).trans h5⟩
theorem SF.base{s0 j:Nat}{w:ah}(h:SF Wg C k B L E s0 j w):SF Wg C k B L E w.heap.size j w:=by refine⟨h.bs,h.pay,h.low,⟨h.bs.hC,h.bs.hB,ay _⟩,λt c ht hm hc=>?_⟩;obtain⟨N,h1,h2,h3⟩:=h.dn t c ht hm hc;exact⟨N,h.bs.lt h2,h2,h3⟩
structure SG(Wg C k B L:Nat)(E:Env)(s0 j bj bc:Nat)(vj v0 v1:ai)(w:ah):Prop where
 sf:SF Wg C k B L E s0 j w
 lj:s0<=bj
 lc:s0<=bc
 ne:bj≠bc
 mj:qQ w bj
 mc:qQ w bc
 hj:w.heap[bj]?=some (.cells #[vj] 3)
 hc:w.heap[bc]?=some (.cells #[v0,v1] 55)
theorem SG.rely{s0 j bj bc:Nat}{vj v0 v1:ai}{w w₁:ah}(h:SG Wg C k B L E s0 j bj bc vj v0 v1 w)(r:Ro Wg C k B (λi=>¬E.Dp k i) w w₁):SG Wg C k B L E s0 j bj bc vj v0 v1 w₁:=
 ⟨h.sf.rely r,h.lj,h.lc,h.ne,(r.yx _).2 h.mj,(r.yx _).2 h.mc,(r.mine _ h.mj).trans h.hj,(r.mine _ h.mc).trans h.hc⟩
structure SJ(Wg C k B L:Nat)(E:Env)(s0 j bj:Nat)(vj:ai)(w:ah):Prop where
 sf:SF Wg C k B L E s0 j w
 lj:s0<=bj
 mj:qQ w bj
 hj:w.heap[bj]?=some (.cells #[vj] 3)
theorem SJ.rely{s0 j bj:Nat}{vj:ai}{w w₁:ah}(h:SJ Wg C k B L E s0 j bj vj w)(r:Ro Wg C k B (λi=>¬E.Dp k i) w w₁):SJ Wg C k B L E s0 j bj vj w₁:=
 ⟨h.sf.rely r,h.lj,(r.yx _).2 h.mj,(r.mine _ h.mj).trans h.hj⟩
theorem SF.alloc{s0 j:Nat}{w:ah}(h:SF Wg C k B L E s0 j w)(o:Obj):SF Wg C k B L E s0 j (w.alloc o):=
 h.ex (S:=λ_=>False) (h.bs.alloc o) (Ex.alloc h.bs.hC h.bs.hB (λ_ hb=>h.bs.lt hb) o) (λ_=>False.elim)
theorem SF.aes{s0 j:Nat}{w:ah}(h:SF Wg C k B L E s0 j w)(v:ai):SJ Wg C k B L E s0 j w.heap.size v (w.alloc (.cells #[v] 3)):=
 ⟨h.alloc _,h.sb.2.2,zO (w:=w) (w':=w.alloc _) rfl h.bs.tg (ay _) iE,by rw[Ed]⟩
theorem SJ.apz{s0 j bj:Nat}{vj:ai}{w:ah}(h:SJ Wg C k B L E s0 j bj vj w)(v0 v1:ai):SG Wg C k B L E s0 j bj w.heap.size vj v0 v1 (w.alloc (.cells #[v0,v1] 55)):=
 ⟨h.sf.alloc _,h.lj,h.sf.sb.2.2,Nat.ne_of_lt (h.sf.bs.lt h.mj),sD (w:=w) (w':=w.alloc _) rfl iE h.mj,zO (w:=w) (w':=w.alloc _) rfl h.sf.bs.tg (ay _) iE,
  (dI _ _ _ (h.sf.bs.lt h.mj)).trans h.hj,by rw[Ed]⟩
theorem SF.set{s0 j b o:Nat}{w:ah}(h:SF Wg C k B L E s0 j w)(hb:s0<=b)(v:ai):SF Wg C k B L E s0 j (w.setCell ⟨b,o,none⟩ v):=
 h.ex (S:=λx=>s0<=x) (h.bs.set _ _) (Ex.set (by have:=h.sb.1;show b≠C;omega) hb (by have:=h.sb.2.1;show¬(b<B/\_);omega)) (λ_ hx=>hx)
theorem SG.an5{s0 j bj bc:Nat}{vj v0 v1:ai}{w:ah}(h:SG Wg C k B L E s0 j bj bc vj v0 v1 w)(v:ai):SG Wg C k B L E s0 j bj bc v v0 v1 (w.setCell ⟨bj,0,none⟩ v):=
 ⟨h.sf.set h.lj v,h.lj,h.lc,h.ne,sD (w:=w) (w':=w.setCell _ _) rfl eY h.mj,sD (w:=w) (w':=w.setCell _ _) rfl eY h.mc,heap_set w h.hj 0 v,(dA _ _ _ _ (dE h.ne)).trans h.hc⟩
theorem SG.arL{s0 j bj bc:Nat}{vj v0 v1:ai}{w:ah}(h:SG Wg C k B L E s0 j bj bc vj v0 v1 w)(u0 u1:ai):SG Wg C k B L E s0 j bj bc vj u0 u1 ((w.setCell ⟨bc,0,none⟩ u0).setCell ⟨bc,1,none⟩ u1):=
 ⟨(h.sf.set h.lc u0).set h.lc u1,h.lj,h.lc,h.ne,sD (w:=w) (w':=(w.setCell ⟨bc,0,none⟩ u0).setCell ⟨bc,1,none⟩ u1) rfl aul h.mj,sD (w:=w) (w':=(w.setCell ⟨bc,0,none⟩ u0).setCell ⟨bc,1,none⟩ u1) rfl aul h.mc,
   (dA _ _ _ _ h.ne).trans ((dA _ _ _ _ h.ne).trans h.hj),heap_set _ (heap_set w h.hc 0 u0) 1 u1⟩
theorem SG.jC{s0 j bj bc:Nat}{vj v0 v1:ai}{w:ah}(h:SG Wg C k B L E s0 j bj bc vj v0 v1 w):bj≠C:=aw1
theorem SG.cC{s0 j bj bc:Nat}{vj v0 v1:ai}{w:ah}(h:SG Wg C k B L E s0 j bj bc vj v0 v1 w):bc≠C:=by have:=h.lc;have:=h.sf.sb.1;omega
theorem SG.cj{s0 j bj bc:Nat}{vj v0 v1:ai}{w:ah}(h:SG Wg C k B L E s0 j bj bc vj v0 v1 w):w.cell? ⟨bj,0,none⟩=some vj/\w.frozen? ⟨bj,0,none⟩=false:=⟨by rw[cell_of w h.hj];rfl,wo w h.hj 0⟩
theorem SG.cc{s0 j bj bc:Nat}{vj v0 v1:ai}{w:ah}(h:SG Wg C k B L E s0 j bj bc vj v0 v1 w):(w.cell? ⟨bc,0,none⟩=some v0/\w.cell? ⟨bc,1,none⟩=some v1)/\w.frozen? ⟨bc,0,none⟩=false/\w.frozen? ⟨bc,1,none⟩=false:=
 ⟨⟨by rw[cell_of w h.hc];rfl,by rw[cell_of w h.hc];rfl⟩,wo w h.hc 0,wo w h.hc 1⟩
theorem alr{n:Nat}{Cl:Nat->Prop}{w:ah}{b:Nat}{u0 u1:ai}(hm:qQ w b)(hne:b≠C)(hb:b<w.heap.size){es:aN}(he:∀e∈es,∃a wr,e=⟨.cell a,wr,false⟩/\a.block=b):Dg Wg C n B Cl w ((w.setCell ⟨b,0,none⟩ u0).setCell ⟨b,1,none⟩ u1) es:=by
 have hx:∀x,x≠b->((w.setCell ⟨b,0,none⟩ u0).setCell ⟨b,1,none⟩ u1).heap[x]?=w.heap[x]?:=λx hx=>(dA _ _ _ _ hx).trans (dA _ _ _ _ hx)
 refine⟨aul,rfl,rfl,λx _ hx' _=>hx x (λe=>hx' (e▸hm)),λi _=>by simp only[World.cell?,hx C (dE hne)],λ⟨cs,h1,h2⟩=>⟨cs,(hx C (dE hne)).trans h1,h2⟩,λe LM=>?_⟩;obtain⟨a,wr,rfl,ha⟩:=he e LM;exact⟨a,wr,rfl,aul,.inl (by rw[ha];exact hm)⟩
theorem SG.ex{s0 j bj bc:Nat}{vj v0 v1:ai}{w w₁:ah}(h:SG Wg C k B L E s0 j bj bc vj v0 v1 w)(hb:Bs C B w₁)(r:Ex Wg C k B (λi=>¬E.Dp k i) (λ_=>False) w w₁):SG Wg C k B L E s0 j bj bc vj v0 v1 w₁:=
 ⟨h.sf.ex hb r (λ_=>False.elim),h.lj,h.lc,h.ne,r.own _ h.mj,r.own _ h.mc,(r.mine _ h.mj id).trans h.hj,(r.mine _ h.mc id).trans h.hc⟩
theorem SF.cell{s0 j N:Nat}{w:ah}{c:Um}(h:SF Wg C k B L E s0 j w)(hj:j<k)(hcj:E.cs[j]?=some c)(hm:qQ w N)(hN:N≠C/\B<=N)(hh:w.heap[N]?=some (.cells (tK c.ys) 5)):
  SF Wg C k B L E w.heap.size (j+1) (w.setCell ⟨C,j,none⟩ (.slice (some ⟨N,0,none⟩) L L)):=by
 obtain⟨arr,QI,BJ⟩:=h.pay;have hx:∀x,x≠C->(w.setCell ⟨C,j,none⟩ (.slice (some ⟨N,0,none⟩) L L)).heap[x]?=w.heap[x]?:=λx hx=>dA _ _ _ _ hx
 have hg:∀b,qQ w b->qQ (w.setCell ⟨C,j,none⟩ (.slice (some ⟨N,0,none⟩) L L)) b:=λb hb=>sD (w:=w) (w':=w.setCell _ _) rfl eY hb
 refine⟨h.bs.set _ _,⟨_,heap_set w QI _ _,by simpa using BJ⟩,h.low.Ag (λb _ _ hb=>hx b hb),⟨h.bs.hC,h.bs.hB,eY⟩,λt d ht hmt hd=>?_⟩;by_cases htj:t=j
 .subst htj;rw[hcj]at hd;cases hd;exact⟨N,h.bs.lt hm,hg N hm,hN,Uu ⟨arr,QI,BJ⟩ hj _,(hx N hN.1).trans hh⟩
 .obtain⟨N',h1,h2,h3,h4,h5⟩:=h.dn t d ag hmt hd;refine⟨N',h.bs.lt h2,hg N' h2,h3,?_,(hx N' h3.1).trans h5⟩;simp only[Has,World.cell?,QI]at h4;simp only[Has,World.cell?,heap_set w QI];rw[kZ (λe:j=t=>htj e.symm)];exact h4
theorem SF.book{s0 j:Nat}{w:ah}(h:SF Wg C k B L E s0 j w)(hj:E.Dp k j){l:aC}(hl:∀b∈l,b<w.heap.size)(hk:∀b,qQ w b->b<s0->b∈l):SF Wg C k B L E s0 (j+1) (w.out (book w.heap.size l)):=by
 refine⟨⟨auk,h.bs.hC,h.bs.hB,λb hb=>by rw[vM]at hb;exact hl b hb⟩,h.pay,h.low.Ag (λ_ _ _ _=>rfl),h.sb,λt c ht hm hc=>?_⟩;by_cases htj:t=j
 .exact absurd (htj▸hj) hm
 .obtain⟨N,h1,h2,h3,h4,h5⟩:=h.dn t c ag hm hc;exact⟨N,h1,.inl (by rw[vM];exact hk N h2 h1),h3,h4,h5⟩
