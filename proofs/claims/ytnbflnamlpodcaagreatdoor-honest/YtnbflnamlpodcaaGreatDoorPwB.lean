import Derived.Test.YtnbflnamlpodcaaGreatDoorEoD
set_option maxHeartbeats 8000000
set_option maxRecDepth 100000
namespace Go.Proofs.Y
open Go.Proofs.Tryz
open Go.RowKit Go.Deep Go.Lf Go.Conc Go.Hp
noncomputable def yj:Code:=Tryz.f19.body.getD .skip
noncomputable def ad2:Code:=qA (qA yj)
noncomputable def ad5:Code:=qA ad2
noncomputable def ad6:Code:=qA ad5
theorem ahz:yj=.seq (qM yj) (.seq (qM (qA yj)) ad2):=aj
def ase:Code->Code| .cond _ x _=>x|c=>c
theorem ap_:ad2=.seq (.seq (qM (qM ad2)) (.seq (qM (qA (qM ad2))) (.cond (.tmp 13) (.seq (qM (ase (qA (qA (qM ad2))))) .ret) .skip))) ad5:=aj
theorem anu:ad2=.seq (qM ad2) ad5:=aj
noncomputable def qa5:{y:Array Oper//y=uq (qM ad5)}:=⟨_,by(simp only[ad5,ad2,yj,qM,qA,uq,Tryz.f19,aQ];rfl)⟩
noncomputable def aO5:Array Oper:=qa5.1
theorem aqa:ad5=.seq (.region 5 aO5 false) ad6:=aj
theorem akK:aO5.size=7:=aj
theorem ahA:∃fn,prog.funcs[19]?=some fn:=⟨_,func19⟩
def Ta(f:Nat->ai)(a4 a5 a6 a7:ai):aB:=#[f 0,f 1,f 2,f 3,a4,a5,a6,a7,f 8,f 9,f 10,f 11,f 12,f 13,f 14,f 15,f 16,f 17,f 18,f 19,f 20,f 21,f 22,f 23,f 24,f 25,f 26,f 27,f 28,f 29,f 30,f 31,f 32,f 33,f 34]
theorem aeC{T:aB}(h:T=#[ae T 0,ae T 1,ae T 2,ae T 3,ae T 4,ae T 5,ae T 6,ae T 7,ae T 8,ae T 9,ae T 10,ae T 11,ae T 12,ae T 13,ae T 14,ae T 15,ae T 16,ae T 17,ae T 18,ae T 19,ae T 20,ae T 21,ae T 22,ae T 23,ae T 24,ae T 25,ae T 26,ae T 27,ae T 28,ae T 29,ae T 30,ae T 31,ae T 32,ae T 33,ae T 34]):T=Ta (λi=>T.getD i undef) (ae T 4) (ae T 5) (ae T 6) (ae T 7):=h
def TA1(vs:ai)(T:aB):Prop:=∃f:Nat->ai,T=Ta f vs (f 5) (f 6) (f 7)
def TA2(vs vd ve:ai)(T:aB):Prop:=∃f:Nat->ai,T=Ta f vs (f 5) vd ve
noncomputable def akL(T:aB):aJ:=(base 19).at ⟨T,[]⟩ (.inRegion aO5 [1,2,3,4,5,6]::[.code ad6])
structure Prm(n:Nat)(g:Nat->Nat):Prop where
 lt:∀i,i<n->g i<n
 inj:∀i j,i<n->j<n->i≠j->g i≠g j
 onto:∀j,j<n->∃i,i<n/\g i=j
def shS(M:Nat)(sh:Nat->xG)(vN vS vC:Nat->ai)(i:Nat):aK:=if i<M then WQ (sh i) (vN i) (vS i) (vC i)else List.replicate 7 (.int .i64 0)
theorem akM{w:ah}{bo:aY}{M:Nat}{sh:Nat->xG}{vN vS vC:Nat->ai}(h:Vj w bo M sh vN vS vC):TQ (shS M sh vN vS vC):=by
 refine⟨λi=>?_,λi u hu=>?_⟩
 .unfold shS;split
  .rfl
  .simp
 .unfold shS at hu;split at hu
  .rename_i hi;have e1:=(h.nm i hi).1.one;have e2:=(h.sz i hi).1.one;have e3:=(h.cl i hi).one;simp only[WQ,dX,avU,or_false]at hu;rcases hu with rfl|rfl|rfl|rfl|rfl|rfl|rfl
   .rfl
   .rfl
   .rfl
   .rfl
   .exact e1
   .exact e2
   .exact e3
  .obtain rfl:=List.eq_of_mem_replicate hu;rfl
theorem aeD{w w':ah}{bo:aY}{M:Nat}{sh:Nat->xG}{vN vS vC:Nat->ai}{r:Ending}(h:Vj w bo M sh vN vS vC)(hx:∀i,i<M->(sh i).i<256)(hI:ByI (shS M sh vN vS vC) (λi=>(sh i).i) M w r w'):
  Below w.heap.size w w'/\∃(g:Nat->Nat)(bs:aY)(cp:Nat),r=.returned (.slice bs M cp)/\Prm M g/\(∀i,i+1<M->(sh (g i)).i<=(sh (g (i+1))).i)/\Vj w' bs M (λi=>sh (g i)) (λi=>vN (g i)) (λi=>vS (g i)) (λi=>vC (g i)):=by
 obtain⟨hb,out,v,rfl,⟨σ,τ,uw,ho⟩,Zj,wS⟩:=hI;refine⟨hb,?_⟩;have hl:∀i,i<M->(out i).l=σ i:=λi hi=>by rw[ho i hi];rfl
 have hk:∀i,i<M->Ai (out i)=(sh (σ i)).i:=λi hi=>by rw[ho i hi];exact ab1 (hx _ (uw i hi).1)
 have hsg:∀i,i<M->∃b,(out i).k=[b]:=λi hi=>by rw[ho i hi];exact⟨_,rfl⟩
 have hv:∃bs cp,v=.slice bs M cp/\(0<M->∃g,bs=some ⟨g,0,none⟩):=by
  rcases wS.2 with⟨h1,h0⟩|⟨g,c,_,h1,_⟩
  .exact⟨none,0,by rw[h1,h0],λh=>ag⟩
  .exact⟨_,c,h1,λ_=>⟨g,rfl⟩⟩
 obtain⟨bs,cp,rfl,hbs⟩:=hv;refine⟨σ,bs,cp,rfl,⟨λi hi=>(uw i hi).1,λi j hi hj hne e=>hne ?_,λj hj=>⟨τ j,(uw j hj).2.1,(uw j hj).2.2.2⟩⟩,λi hi=>?_,?_,λi hi=>?_,λi hi=>?_,λi hi=>?_,λi hi=>h.kn _ (uw i hi).1⟩
 .have a1:=(uw i hi).2.2.1;have a2:=(uw j hj).2.2.1;rw[e,a2]at a1;exact a1.symm
 .have:=Zj i hi;unfold Hp.le at this;rw[ad1 (hsg _ ag) (hsg _ ag),hk _ ag,hk _ ag]at this;have:=jr this;omega
 .intro hn;obtain⟨g,rfl⟩:=hbs hn;have hS:=akM h;refine⟨g,0,rfl,?_,λi hi=>?_⟩
  .have:=y8 (c:=λe=>shS M sh vN vS vC e.l) (λe=>hS.len e.l) wS hn 0 ((shS M sh vN vS vC (out 0).l)[0]'(by rw[hS.len];omega)) (cO _);exact rG this
  .have:=y8 (c:=λe=>shS M sh vN vS vC e.l) (λe=>hS.len e.l) wS hi;rw[hl i hi,shS,ay (uw i hi).1]at this;rw[bM];exact this
 .exact⟨(h.nm _ (uw i hi).1).1.adW hb (az _),(h.nm _ (uw i hi).1).2⟩
 .exact⟨(h.sz _ (uw i hi).1).1.adW hb (az _),(h.sz _ (uw i hi).1).2⟩
 .exact(h.cl _ (uw i hi).1).adW hb (az _)
theorem OA{w:ah}(τ:Nat->Question->Nat)(d:Nat){k:Nat}{v:ai}{e p:Nat}(h:sV w k v e p):sV {w with tape:=τ,drawn:=d} k v e p:=Yt (w:=w) (w':={w with tape:=τ,drawn:=d}) ⟨az w.heap.size,λ_ _ _ _ h=>h⟩ h
theorem Gz.one{n:Nat}{sh:Nat->xG}{e e':Nat}(h:Gz n sh e)(h':Gz n sh e'):e'=e:=by rcases h with⟨rfl,a⟩|⟨rfl,a,b⟩|⟨rfl,a,b,c⟩|⟨rfl,a,b,c,d⟩<;>rcases h' with⟨rfl,a'⟩|⟨rfl,a',b'⟩|⟨rfl,a',b',c'⟩|⟨rfl,a',b',c',d'⟩<;>first|rfl|contradiction|omega
theorem Gz.some(n:Nat)(sh:Nat->xG):∃e,Gz n sh e:=by
 by_cases h1:BH n sh
 .by_cases h2:Dup n sh
  .exact⟨11,.inr (.inl ⟨rfl,h1,h2⟩)⟩
  .by_cases h3:n=0\/n<(sh 0).k
   .exact⟨12,.inr (.inr (.inl ⟨rfl,h1,h2,h3⟩))⟩
   .exact⟨0,.inr (.inr (.inr ⟨rfl,h1,h2,ag,ag⟩))⟩
 .exact⟨10,.inl ⟨rfl,h1⟩⟩
theorem akN(ns:List (ak))(sz:aA)(l:ak)(vN vS vd:ai)(w:ah)(hN:qU w vN (xe ns))(hS:qU w vS (zV sz))(hD:qU w vd (sJ l))(hV:Oz vd l.length)(Me:ns.length<=sz.length)(hsum:sz.sum=l.length)(hn:ns.length<=1048576)(hl:l.length<=1048576):
  Calls prog 39 #[vN,vS,vd] w λr w'=>Below w.heap.size w w'/\∃vd,r=.returned (.slice (some ⟨w.heap.size,0,none⟩) ns.length ns.length)/\CB ns sz l w.heap.size ns.length vd w':=by
 rcases hV with⟨rfl,h0⟩|⟨b,off,cap,rfl,hc⟩
 .obtain rfl:l=[]:=l7 h0;refine agY ns sz vN vS w hN hS Me (λi hi=>?_) hn;have h1:=EF hi;have h2:=ajV sz (i+1);simp only[dY]at hsum;omega
 .exact agX ns sz l vN vS b off cap w hN hS hD hc Me ag hn hl
section
variable {X:Nat->Prop}{Y:Nat->aV}{D:Nat->ah->aH->Prop}{Stop:aG->ah->Prop}{w:ah}{cs:aP}{fr:aJ}{M cap:Nat}{bo:aY}{sh:Nat->xG}{vN vS vC:Nat->ai}{T:aB}
theorem aqb(rM:uU X D)(hS:Vj w bo M sh vN vS vC)(hM:M<=1048576)(hx:∀i,i<M->(sh i).i<256)
  (qJ:∀(T:aB)(g:Nat->Nat)(bs:aY)(cp:Nat)(w':ah),TA1 (.slice bs M cp) T->Prm M g->(∀i,i+1<M->(sh (g i)).i<=(sh (g (i+1))).i)->Vj w' bs M (λi=>sh (g i)) (λi=>vN (g i)) (λi=>vS (g i)) (λi=>vC (g i))->sH w.heap.size w w'->
   uA prog X Y D Stop 19 cs [.code ad2] ⟨T,[]⟩ w'):
  uA prog X Y D Stop 19 cs [.code yj] ⟨#[.slice bo M cap]++Array.replicate 34 undef,[]⟩ w:=by
 rw[ahz];simp only[dR,dQ,dM,dP,dA,bT];refine rf qP rM aj rfl ahA λR hR τ d'=>?_
 have bl:sH w.heap.size w {w with tape:=τ,drawn:=d'}:=(sH.refl _ w).tp τ d';generalize({w with tape:=τ,drawn:=d'}:ah)=wA at bl⊢;simp only[qM,yj,Tryz.f19,aQ];go_wp2;refine rf qP rM aj rfl ahA λR hR τ d'=>?_
 replace bl:=bl.tp τ d';generalize({wA with tape:=τ,drawn:=d'}:ah)=wB at bl⊢;simp only[qM,qA,yj,Tryz.f19,aQ];have Hr:=hS.AO bl
 have hSC:SC wB bo M (shS M sh vN vS vC):=λhn=>by obtain⟨b,o,e,hl,hc⟩:=Hr.cells hn;exact⟨b,o,e,hl,λi hi=>by rw[shS,ay hi];exact hc i hi⟩
 have k1:=ab3 (akM hS) (λi=>(sh i).i) M cap bo wB hM hSC (λi hi=>⟨hx i hi,by rw[shS,ay hi];rfl⟩)
 go_wp2_with(first|(go_at_call 35;(with_reducible refine k1.mono ?_);rintro r w1 hI;obtain⟨uu,g,bs,cp,rfl,hP,Zj,Qp⟩:=aeD Hr hx hI))
 exact qJ _ g bs cp w1 ⟨_,aeC rfl⟩ hP Zj Qp (bl.trans (sH.of uu) bl.sN)
theorem asf(rM:uU X D)(hT:TA1 (.slice bo M cap) T)(hS:Vj w bo M sh vN vS vC)(hM:M<=1048576){e:Nat}(hE:Gz M sh e)(he:e≠0)
  (qJ:∀ev p w',sV w' 1 ev e p->sH w.heap.size w w'->∀z,qQ X Y z w'->r_ prog D Stop (G (fr.finish (.tuple #[.slice none 0 0,ev])) cs) z):
  uA prog X Y D Stop 19 (fr::cs) [.code ad2] ⟨T,[]⟩ w:=by
 obtain⟨f,rfl⟩:=hT;unfold Ta;rw[ap_];refine Jl.1 (qy rM (qy rM (rF qP rM aj ahA λR hR τ d=>?_)));have bl:sH w.heap.size w {w with tape:=τ,drawn:=d}:=(sH.refl _ w).tp τ d;generalize({w with tape:=τ,drawn:=d}:ah)=wA at bl⊢;have k1:=PS M cap bo sh vN vS vC wA hM (hS.AO bl);simp only[ad2,qM,qA,yj,Tryz.f19,aQ]
 go_wp2_with(first|(go_at_call 36;(with_reducible refine k1.mono ?_);rintro r w1 ⟨uu,e',v,hE',rfl,h1,h2⟩))
 obtain rfl:e'=e:=hE.one hE';obtain⟨p,Zg⟩:=h2 he;clear h1 h2;replace bl:=bl.trans (sH.of uu) bl.sN;refine qy rM (rF qP rM aj ahA λR hR τ d=>?_);replace bl:=bl.tp τ d;replace Zg:=OA τ d Zg;generalize({w1 with tape:=τ,drawn:=d}:ah)=w2 at bl Zg⊢;obtain⟨ty,x,rfl⟩:=Zg.iface;simp only[ad2,qM,qA,yj,Tryz.f19,aQ];go_wp2;refine xu rM (b:=true) aI ?_;simp only[aX];refine qy rM (rF qP rM aj ahA λR hR τ d=>?_);replace bl:=bl.tp τ d;replace Zg:=OA τ d Zg;generalize({w2 with tape:=τ,drawn:=d}:ah)=w3 at bl Zg⊢;simp only[ad2,qM,qA,ase,yj,Tryz.f19,aQ]
 go_wp2_with(first|(go_at_call 37;refine(yU _ 0 _ e' p _ Zg).mono ?_;rintro q w4 ⟨v4,rfl,h5,h6⟩))
 refine(Jl.2 (agN rM func19 (y:=.tuple #[.slice none 0 0,v4]) (λτ d=>results_tmp2 (fn:=Tryz.f19) (t:=2) (u:=3) rfl _ _ _) (qJ v4 p w4 h5 (bl.trans (sH.of h6) bl.sN))))
theorem asg(rM:uU X D)(hT:TA1 (.slice bo M cap) T)(hS:Vj w bo M sh vN vS vC)(hM:M<=1048576)(hE:Gz M sh 0)
  (qJ:∀T' w',TA1 (.slice bo M cap) T'->sH w.heap.size w w'->uA prog X Y D Stop 38 (akL T'::cs) [.code yu] ⟨#[.slice bo M cap]++Array.replicate 75 undef,[]⟩ w'):
  uA prog X Y D Stop 19 cs [.code ad2] ⟨T,[]⟩ w:=by
 obtain⟨f,rfl⟩:=hT;unfold Ta;rw[anu];refine rf qP rM aj rfl ahA λR hR τ d=>?_
 have bl:sH w.heap.size w {w with tape:=τ,drawn:=d}:=(sH.refl _ w).tp τ d;generalize({w with tape:=τ,drawn:=d}:ah)=wA at bl⊢;have k1:=PS M cap bo sh vN vS vC wA hM (hS.AO bl);simp only[ad2,qM,qA,yj,Tryz.f19,aQ]
 go_wp2_with(first|(go_at_call 36;(with_reducible refine k1.mono ?_);rintro r w1 ⟨uu,e',v,hE',rfl,h1,h2⟩;obtain rfl:e'=0:=hE.one hE';obtain rfl:=h1 rfl))
 clear h2 k1;replace bl:=bl.trans (sH.of uu) bl.sN;rw[aqa];refine xM rM rfl (FK rM ?_);rw[akK];simp only[List.range,List.range.loop];refine qC qP rM (.slice bo M cap) j_ rfl aj (λz _=>a_) ?_;walk_nrm;refine wo rM j_ rfl aI func38 aj (c:=yu) aj (vs:=#[.slice bo M cap]) (n:=75) gI aj ?_;unfold akL at qJ;exact qJ _ _ ⟨_,aeC rfl⟩ bl
theorem afQ(rM:uU X D)(hT:TA1 (.slice bo M cap) T){vd ve:ai}
  (qJ:∀T',TA2 (.slice bo M cap) vd ve T'->rC prog X Y D Stop none [] 19 cs [.code ad6] T' w):
  ∀z,qQ X Y z w->r_ prog D Stop (G ((akL T).finish (.tuple #[vd,ve])) cs) z:=by
 rw[show akL T=Dn none [] 19 T (.inRegion aO5 [1,2,3,4,5,6]::[.code ad6])from rfl];rw[vM j_];show rC _ _ _ _ _ _ _ _ _ _ _ _;obtain⟨g,rfl⟩:=hT;unfold Ta;walk_nrm;refine qC qP rM (.tuple #[vd,ve]) j_ rfl aj (λz _=>a_) ?_;walk_nrm;refine qC qP rM vd j_ rfl aj (λz _=>a_) ?_;walk_nrm;refine qC qP rM ve j_ rfl aj (λz _=>a_) ?_;walk_nrm;refine qC qP rM vd j_ rfl aj (λz _=>a_) ?_;walk_nrm;refine qC qP rM ve j_ rfl aj (λz _=>a_) ?_;walk_nrm;exact tY rM (qJ _ ⟨_,aeC rfl⟩)
theorem aqc(rM:uU X D){vd ve:ai}{e p:Nat}(hT:TA2 (.slice bo M cap) vd ve T)(Zg:sV w 0 ve e p)
  (qJ:∀ev w',sV w' 1 ev e p->sH w.heap.size w w'->∀z,qQ X Y z w'->r_ prog D Stop (G (fr.finish (.tuple #[.slice none 0 0,ev])) cs) z):
  uA prog X Y D Stop 19 (fr::cs) [.code ad6] ⟨T,[]⟩ w:=by
 refine Lc qP rM aj func19 (R:=λy w'=>∃ev,y=.tuple #[.slice none 0 0,ev]/\sV w' 1 ev e p/\sH w.heap.size w w') (λτ d=>?_) (λy v' ⟨ev,h1,h2,h3⟩=>h1▸qJ ev v' h2 h3);have bl:sH w.heap.size w {w with tape:=τ,drawn:=d}:=(sH.refl _ w).tp τ d;replace Zg:=OA τ d Zg;generalize({w with tape:=τ,drawn:=d}:ah)=wA at bl Zg⊢;obtain⟨f,rfl⟩:=hT;unfold Ta
 conv in ad6=>simp only[ad6,ad5,ad2,yj,qA,Tryz.f19,aQ]
 obtain⟨ty,x,rfl⟩:=Zg.iface
 go_wp2_with(first|(go_at_call 37;refine(yU _ 0 _ e p _ Zg).mono ?_;rintro q w4 ⟨v4,rfl,h5,h6⟩))
 go_ret2;exact⟨_,rfl,v4,rfl,h5,bl.trans (sH.of h6) bl.sN⟩
theorem aqd(rM:uU X D){vd:ai}{l:ak}(hT:TA2 (.slice bo M cap) vd .nilIface T)(hS:Vj w bo M sh vN vS vC)(hM:0<M)(hD:qU w vd (sJ l))(hV:Oz vd l.length)(Me:(sh 0).names.length=(sh 0).sizes.length)(hsum:(sh 0).sizes.sum=l.length)(hl:l.length<=1048576)
  (qJ:∀g vb w',CB (sh 0).names (sh 0).sizes l g (sh 0).names.length vb w'->sH w.heap.size w w'->w.heap.size<=g->∀z,qQ X Y z w'->r_ prog D Stop (G (fr.finish (.tuple #[.slice (some ⟨g,0,none⟩) (sh 0).names.length (sh 0).names.length,.nilIface])) cs) z):
  uA prog X Y D Stop 19 (fr::cs) [.code ad6] ⟨T,[]⟩ w:=by
 refine Lc qP rM aj func19 (R:=λy w'=>∃g vb,y=.tuple #[.slice (some ⟨g,0,none⟩) (sh 0).names.length (sh 0).names.length,.nilIface]/\CB (sh 0).names (sh 0).sizes l g (sh 0).names.length vb w'/\sH w.heap.size w w'/\w.heap.size<=g) (λτ d=>?_) (λy v' ⟨g,vb,h1,h2,h3,h4⟩=>h1▸qJ g vb v' h2 h3 h4);have bl:sH w.heap.size w {w with tape:=τ,drawn:=d}:=(sH.refl _ w).tp τ d;generalize({w with tape:=τ,drawn:=d}:ah)=wA at bl⊢;obtain⟨f,rfl⟩:=hT;unfold Ta;have Hr:=hS.AO bl;have h0n:(0:Int)<(M:Int):=ag;obtain⟨b,o,rfl,L_,hcell⟩:=Hr.cells hM;have r0:=hcell 0 hM;unfold WQ at r0;obtain⟨q0,q1,q2,q3,q4,q5,q6⟩:=QL r0;simp only[gX,gy]at q4 q5;have k1:=akN (sh 0).names (sh 0).sizes l (vN 0) (vS 0) vd wA.drew (qU.drewN (Hr.nm 0 hM).1 1) (qU.drewN (Hr.sz 0 hM).1 1) (qU.drewN (O3 bl hD) 1) hV ag hsum (Hr.nm 0 hM).2 hl
 conv in ad6=>simp only[ad6,ad5,ad2,yj,qA,Tryz.f19,aQ]
 clear q0 q1 q2 q3 q6 r0 hcell Me hsum
 go_wp2_with fail
 have WO:sH w.heap.size w wA.drew:=bl.trans (sH.of (aT _ _).drew) bl.sN
 go_region_with (first|(go_at_call 39;(with_reducible refine k1.mono ?_);rintro r w2 ⟨tX,vb,rfl,hCB⟩))
 all_goals
  go_wp2;go_ret2;exact⟨_,rfl,_,vb,rfl,hCB,WO.trans (sH.of tX) WO.sN,WO.sN⟩
end
end Go.Proofs.Y
namespace Go.Proofs.Y
open Go.Proofs.Tryz
def L6:St->List (ak)->Option St
 |s,[]=>some s
 |s,t::ts=>if t.length=s.sz/\s.nx≠4 then match vK s t with
  | .ok s'=>L6 (tV s' t) ts
  | .error _=>none
  else none
theorem akO{Z t u:ak}{a:Nat}(h:At Z a (t++u)):At Z a t/\At Z (a+t.length) u:=by
 have h1:=h.1;rw[bK]at h1;refine⟨⟨ag,λi hi=>?_⟩,⟨ag,λi hi=>?_⟩⟩
 .rw[h.2 i aS];simp only[tZ,bH];rw[gV hi]
 .rw[dW,h.2 (t.length+i) aS];simp only[tZ,bH];rw[jE ag,iT]
theorem aeE(x t y:ak):At (x++t++y) x.length t:=by refine⟨ax,λi hi=>?_⟩;simp only[tZ,bH];rw[gV aS,jE ag,iT]
theorem acH:∀(ts:List (ak))(s s':St)(Z:ak),Good s Z->At Z s.pl ts.flatten->L6 s ts=some s'->Good s' Z/\s'.pl=s.pl+ts.flatten.length
 |[],s,s',Z,hG,_,h=>by cases h;exact⟨hG,rfl⟩
 |t::ts,s,s',Z,hG,hA,h=>by
  unfold L6 at h;split at h
  .rename_i hc;cases hr:vK s t with
   |error e=>rw[hr]at h;cases h
   |ok s1=>
    rw[hr]at h;rw[jY]at hA;obtain⟨h1,h2⟩:=akO hA;obtain⟨_,g1,g2,_⟩:=afN hG hc.2 h1 ag hr;have hp:(tV s1 t).pl=s.pl+t.length:=by show s1.pl+t.length=_;rw[g2]
    obtain⟨g3,g4⟩:=acH ts _ s' Z g1 (by rw[hp];exact h2) h;refine⟨g3,?_⟩;rw[g4,hp,jY,bK];omega
  .cases h
def St0:St:=⟨0,0,0,0,[],[],[],0,0,0,0,0⟩
theorem ahB{ts:List (ak)}{s:St}(h:L6 St0 ts=some s)(h4:s.nx=4)(x:ak):qY (ts.flatten++x)=if x=[]then .ok s.shd else .error (9,ts.flatten.length):=by
 obtain⟨g1,g2⟩:=acH ts St0 s (ts.flatten++x) (.head rfl rfl rfl) (aeE [] ts.flatten x) h;have g2':s.pl=ts.flatten.length:=by rw[g2];exact bM _
 rw[acz g1 h4,g2'];by_cases hx:x=[]
 .rw[ay hx,ay (by rw[hx];simp)]
 .have:0<x.length:=lX.2 hx;rw[au hx,au aS]
theorem acI{x y:ak}{i:Nat}(h:i<x.length):tZ (x++y) i=tZ x i:=by simp only[tZ,bH];rw[gV h]
theorem YX{x y:ak}{i:Nat}(h:x.length<=i):tZ (x++y) i=tZ y (i-x.length):=by simp only[tZ,bH];rw[jE h]
theorem ahC(x y:ak):part (x++y) 0 x.length=x:=avj
theorem ahD(x y:ak):part (x++y) x.length y.length=y:=avj
theorem akP(x y z:ak):part (x++(y++z)) x.length y.length=y:=avj
theorem YY(ws x:ak):Dj (ws++x) ws=none:=by rw[Gt];intro i hi;rw[acI ag];rfl
theorem aeF(x y z:ak):le (x++(y++z)) x.length y.length=le y 0 y.length:=by have:=(aeE x y z).num y.length 0 ag;rwa[fK,gy]at this
theorem LU{n v:Nat}(h:v<256^n):le (u_ n v) 0 n=v:=by rw[aep,cu h]
theorem Rk{s:St}{l:ak}(h:s.sz=l.length+8):zg s (rJ l)=none/\part (rJ l) 0 ((rJ l).length-8)=l:=by
 have e1:(rJ l).length-8=l.length:=aww;have e2:part (rJ l) 0 l.length=l:=ahC _ _;refine⟨?_,by rw[e1,e2]⟩;unfold zg;rw[au aww,e1,e2]
 have e3:part (rJ l) l.length 8=u_ 8 (sumOf l):=by have:=ahD l (u_ 8 (sumOf l));rwa[ru]at this
 rw[e3,LU (by have:=JG l;simpa using this),ay rfl]
def S9(p:ak×Nat):ak:=u_ 2 p.1.length++(p.1++u_ 4 p.2)
def vV(ps:List (ak×Nat)):ak:=ps.flatMap S9
theorem PU(p:ak×Nat):(S9 p).length=6+p.1.length:=by simp[S9,ru];omega
def Asc:List (ak)->List (ak)->Prop
 |_,[]=>True
 |ns,p::r=>(1<=p.length/\p.length<=255)/\(0<ns.length->vO p (ns.getD (ns.length-1) [])=false)/\Asc (ns++[p]) r
theorem akQ{l:List (ak)}(h:xk l):∀(r x:List (ak)),l=x++r->Asc x r
 |[],_,_=>trivial
 |p::r,x,e=>by
  have hx:x.length<l.length:=by rw[e];simp
  have h1:=h x.length hx;have e1:l.getD x.length []=p:=by rw[e];simp
  rw[e1]at h1;refine⟨h1.1,λh0=>?_,akQ h r _ (by rw[e];simp)⟩;have h2:=h1.2 h0
  have e2:l.getD (x.length-1) []=x.getD (x.length-1) []:=by rw[e];simp only[bH];rw[gV ag]
  rw[e2]at h2;exact h2
theorem akR:∀(r x:List (ak)),xk x->Asc x r->xk (x++r)
 |[],x,h,_=>by rwa[d_]
 |p::r,x,h,ha=>by
  obtain⟨h1,h2,h3⟩:=ha;have:=akR r (x++[p]) (λi hi=>?_) h3
  .rwa[fK]at this
  .have La:i<x.length+1:=nZ;rcases bJ i x.length with q|q
   .have e1:∀j,j<x.length->(x++[p]).getD j []=x.getD j []:=λj hj=>by
     simp only[bH];rw[gV hj]
    rw[e1 i q,e1 (i-1) ag];exact h i q
   .obtain rfl:i=x.length:=ag;have e1:(x++[p]).getD x.length []=p:=by simp
    rw[e1];refine⟨h1,λh0=>?_⟩
    have e2:(x++[p]).getD (x.length-1) []=x.getD (x.length-1) []:=by simp only[bH];rw[gV ag]
    rw[e2];exact h2 h0
theorem YZ:∀(ps:List (ak×Nat))(x:ak)(ns:List (ak))(zs:aA),Asc ns (ps.map Prod.fst)->zs.sum+(ps.map Prod.snd).sum<=65536->zO (x++vV ps) ps.length x.length ns zs=.ok (ns++ps.map Prod.fst,zs++ps.map Prod.snd)
 |[],x,ns,zs,_,_=>by simp[zO,vV]
 |p::ps,x,ns,zs,ha,hz=>by
  obtain⟨nm,z⟩:=p;obtain⟨⟨l1,l2⟩,ho,ha⟩:=ha;simp only[gU,jT]at hz l1 l2 ho ha⊢;have eu:x++vV ((nm,z)::ps)=x++(u_ 2 nm.length++(nm++(u_ 4 z++vV ps))):=by simp[vV,S9]
  have eu2:x++vV ((nm,z)::ps)=(x++S9 (nm,z))++vV ps:=by simp[vV]
  have hl:(x++vV ((nm,z)::ps)).length=x.length+6+nm.length+(vV ps).length:=by rw[eu2,bK,bK,PU];simp only;omega
  have e1:le (x++vV ((nm,z)::ps)) x.length 2=nm.length:=by rw[eu];have:=aeF x (u_ 2 nm.length) (nm++(u_ 4 z++vV ps));rw[ru]at this;rw[this,LU ag]
  have e2:part (x++vV ((nm,z)::ps)) (x.length+2) nm.length=nm:=by rw[eu,<-fK];have:=akP (x++u_ 2 nm.length) nm (u_ 4 z++vV ps);rwa[bK,ru]at this
  have e3:le (x++vV ((nm,z)::ps)) (x.length+2+nm.length) 4=z:=by rw[eu,<-fK,<-fK];have:=aeF (x++u_ 2 nm.length++nm) (u_ 4 z) (vV ps);rw[bK,bK,ru,ru]at this;rw[this,LU ag]
  have hb:x9 (x++vV ((nm,z)::ps)) x.length ns zs=.ok (nm,z):=by unfold x9;rw[e1,e2,e3,au ag,au (λq=>by rw[ho q.1]at q;exact absurd q.2 ax),au ag]
  show zO _ (ps.length+1) _ _ _=_;unfold zO;rw[hb];simp only;have:=YZ ps (x++S9 (nm,z)) (ns++[nm]) (zs++[z]) ha (by simp only[iU,jT,nN];omega);rw[bK,PU]at this;rw[eu2,this];simp
theorem Y0{ns:List (ak)}{zs:di}(h:ns.length=zs.length):xq ns zs ns.length=u_ 4 ns.length++vV (ns.zip (zs.map Int.toNat)):=by
 unfold xq vV
 congr 1
 rw[List.flatMap_def,List.flatMap_def]
 congr 1
 apply avZ
 .simp;omega
 .intro i h1 h2;have hi:i<ns.length:=iK;have hz:i<zs.length:=ag;simp[S9,cO hi,cO hz]
theorem ah0{ns:List (ak)}{zs:di}(h:ns.length=zs.length)(hn:xk ns)(hl:ns.length<=1000)(hz:Fv zs<=65536):AB (xq ns zs ns.length)=.ok (ns,zs.map Int.toNat):=by
 have hzl:(zs.map Int.toNat).length=ns.length:=by simp[h]
 have m1:(ns.zip (zs.map Int.toNat)).map Prod.fst=ns:=List.map_fst_zip ag;have m2:(ns.zip (zs.map Int.toNat)).map Prod.snd=zs.map Int.toNat:=List.map_snd_zip ag;have hlz:(ns.zip (zs.map Int.toNat)).length=ns.length:=by rw[List.length_zip];omega
 have:=YZ (ns.zip (zs.map Int.toNat)) (u_ 4 ns.length) [] [] (by rw[m1];exact akQ hn ns [] rfl) (by rw[m2];simpa[Fv]using hz);rw[m1,m2,hlz,ru]at this;unfold AB;rw[Y0 h]
 have e0:le (u_ 4 ns.length++vV (ns.zip (zs.map Int.toNat))) 0 4=ns.length:=by have:=aeF [] (u_ 4 ns.length) (vV (ns.zip (zs.map Int.toNat)));rw[ru]at this;simp only[dA,dY]at this;rw[this,LU ag]
 rw[e0,au ag,this];rfl
def frL(c:Nat):Nat->ak->List (ak)
 |0,_=>[]
 |f+1,r=>if r=[]then[]else rJ (r.take c)::frL c f (r.drop c)
theorem acJ(c:Nat)(r:ak)(k:Nat):yt c r (k+1)=yt c (r.drop c) k:=by unfold yt part;rw[pM,iG,show c+k*c=(k+1)*c by rw[lQ,nJ,jy],show r.length-(k+1)*c=r.length-c-k*c by rw[lQ,nJ];omega]
theorem V6{c:Nat}(hc:1<=c):∀(f:Nat)(r:ak),r.length<=f->(frL c f r).flatten=su c r (Hu c r.length)
 |0,r,h=>by have:r=[]:=lY.1 ag;subst this;have:Hu c 0=0:=axd;simp[frL,su,this]
 |f+1,r,h=>by
  by_cases hr:r=[]
  .subst hr;have:Hu c 0=0:=axd;simp[frL,su,this]
  .have hp:0<r.length:=lX.2 hr
   have hn:Hu c r.length=Hu c (r.drop c).length+1:=by
    unfold Hu;rw[iG];rcases bJ r.length c with q|q
    .rw[show r.length-c=0 by omega,lM (show 0+c-1<c by omega),aw4]<;>omega
    .rw[show r.length+c-1=(r.length-c+c-1)+c by omega,Nat.add_div_right _ ag]
   unfold frL;rw[au hr,jY,V6 hc f (r.drop c) awO,hn];unfold su;rw[List.range_succ_eq_map,List.flatMap_cons]
   congr 1
   .unfold yt part;rw[gX,l9,avQ]
    congr 1
    rcases bJ r.length c with q|q
    .rw[Nat.min_eq_right ag,jg ag,jg ag]
    .rw[oP q]
   .rw[List.flatMap_map];refine bI (λg=>(List.range (Hu c (r.drop c).length)).flatMap g) (funext λk=>?_);exact(acJ c r k).symm
theorem V7{c:Nat}(hc:1<=c)(ts:List (ak)):∀(f:Nat)(r:ak)(s:St),r.length<=f->s.nx=(if r=[]then 3 else 2)->s.c=c->s.ln=s.qH.length+r.length->(∀m,m<s.ln->BF s.k s.i s.tt<=(m:Int)->tZ (s.qH++r) m=0)->
  ∃pl,L6 s (frL c f r++ts)=L6 {s with qH:=s.qH++r,nx:=3,pl:=pl} ts
 |0,r,s,hf,hx,_,_,_=>by have:r=[]:=lY.1 ag;subst this;refine⟨s.pl,?_⟩;rw[ay rfl]at hx;obtain⟨k,n,i,c',ns,zs,qH,m,ln,tt,nx,pl⟩:=s;simp only at hx;subst hx;simp[frL]
 |f+1,r,s,hf,hx,hsc,Me,hp=>by
  by_cases hr:r=[]
  .subst hr;refine⟨s.pl,?_⟩;rw[ay rfl]at hx;obtain⟨k,n,i,c',ns,zs,qH,m,ln,tt,nx,pl⟩:=s;simp only at hx;subst hx;simp[frL]
  .rw[au hr]at hx;have Nq:0<r.length:=lX.2 hr
   have hsz:s.sz=(r.take c).length+8:=by rw[sz2 hx,hsc,Me,iT,gZ]
   obtain⟨g1,g2⟩:=Rk hsz
   have atS:TZ (r.take c) (BF s.k s.i s.tt-(s.qH.length:Int))=none:=by rw[Gv];intro m hm hF;have WC:m<r.length:=axN;have:=hp (s.qH.length+m) ag ag;rw[YX ag,iT]at this;rw[<-this];simp only[tZ,bH];rw[List.getElem?_take_of_lt axN]
   have xK:vK s (rJ (r.take c))=.ok {s with qH:=s.qH++r.take c}:=by unfold vK;rw[au ag,au ag,ay hx];unfold Fb;rw[g1,g2];simp only;rw[atS]
   have e1:s.qH++r.take c++r.drop c=s.qH++r:=by rw[fK,nM]
   obtain⟨pl,h⟩:=V7 hc ts f (r.drop c) (tV {s with qH:=s.qH++r.take c} (rJ (r.take c))) awO (by
     show x_ _=_;unfold x_;simp only;rw[au ag,au ag,Me,bK,gZ];by_cases q:r.drop c=[]
     .rw[ay q,au];have:=bI List.length q;rw[iG,dY]at this;omega
     .have:=lX.2 q;rw[iG]at this;rw[au q,ay ag]) hsc (by
     show s.ln=(s.qH++r.take c).length+_;rw[Me,bK,gZ,iG];omega) (by
     show∀m,m<s.ln->BF s.k s.i s.tt<=(m:Int)->tZ (s.qH++r.take c++r.drop c) m=0;rw[e1];exact hp)
   refine⟨pl,?_⟩;unfold frL;rw[au hr,bT]
   conv=>lhs;unfold L6
   rw[ay ⟨by rw[tu];exact hsz.symm,ag⟩,xK];refine h.trans ?_;show L6 {s with qH:=s.qH++r.take c++r.drop c,nx:=3,pl:=pl} ts=_;rw[e1]
def pieces(s:Sh):List (ak):=rJ (uo s (yD s).length)::rJ (yD s)::(frL s.C.toNat s.qH.length s.qH++[vH])
theorem acK{s:Sh}(h:1<=s.C):(pieces s).flatten=Jm s:=by unfold pieces Jm;rw[jY,jY,avY,V6 ag _ _ (az _)];simp[vH]
def Ry(s:Sh):xG:=⟨s.K.toNat,s.N.toNat,s.I.toNat,s.C.toNat,s.ns,s.zs.map Int.toNat,s.qH⟩
theorem GG(s:Sh)(m:Nat):(uo s m).length=24:=by simp[uo,ru]
theorem akS{s:Sh}(hF:s.L8){m:Nat}(hm:4<=m)(hm2:m<=300000)(hl:s.qH.length<=65536)(ts:List (ak)):L6 St0 (rJ (uo s m)::ts)=L6 ⟨s.K.toNat,s.N.toNat,s.I.toNat,s.C.toNat,[],[],[],m,s.qH.length,0,1,32⟩ ts:=by
 have hz:St0.sz=(uo s m).length+8:=by rw[GG];rfl
 obtain⟨g1,_⟩:=Rk hz;have ha:At (rJ (uo s m)) 0 (uo s m):=aeE [] (uo s m) _
 have hn:∀j n,j+n<=24->le (rJ (uo s m)) j n=le (uo s m) j n:=λj n h=>by have:=ha.num n j (by rw[GG];exact h);rwa[bM]at this
 obtain⟨k1,kn,n1,i0,iN,c1,c2⟩:=hF;have e6:le (rJ (uo s m)) 6 1=s.K.toNat:=by rw[hn 6 1 ag];simp[uo,le,tZ,b8];omega
 have e7:le (rJ (uo s m)) 7 1=s.N.toNat:=by rw[hn 7 1 ag];simp[uo,le,tZ,b8];omega
 have e8:le (rJ (uo s m)) 8 1=s.I.toNat:=by rw[hn 8 1 ag];simp[uo,le,tZ,b8];omega
 have e9:le (rJ (uo s m)) 9 1=0:=by rw[hn 9 1 ag];simp[uo,le,tZ]
 have e10:le (rJ (uo s m)) 10 4=s.C.toNat:=by rw[hn 10 4 ag];simp[uo,le,tZ,u_];omega
 have e14:le (rJ (uo s m)) 14 4=m:=by rw[hn 14 4 ag];simp[uo,le,tZ,u_];omega
 have e18:le (rJ (uo s m)) 18 4=s.qH.length:=by rw[hn 18 4 ag];simp[uo,le,tZ,u_];omega
 have e22:le (rJ (uo s m)) 22 2=0:=by rw[hn 22 2 ag];simp[uo,le,tZ,u_]
 have eb:Dj (rJ (uo s m)) BU=none:=by
  have:rJ (uo s m)=BU++(([b8 s.K,b8 s.N,b8 s.I,0]++(u_ 4 s.C.toNat++(u_ 4 m++(u_ 4 s.qH.length++[0,0]))))++u_ 8 (sumOf (uo s m))):=by
   unfold rJ
   conv=>lhs;unfold uo
   simp only[fK];rfl
  rw[this];exact YY _ _
 have en:vZ (zQ (rJ (uo s m)))=none:=by unfold zQ;rw[e6,e7,e8,e9,e10,e14,e18,e22];unfold vZ;rw[au ag];unfold vZ;rw[au ag];unfold vZ;rw[au ag];unfold vZ;rw[au ag];unfold vZ;rw[au ag];unfold vZ;rw[au ag];unfold vZ;rw[au ag];unfold vZ;rw[au ag];rfl
 have hr:vK St0 (rJ (uo s m))=.ok ⟨s.K.toNat,s.N.toNat,s.I.toNat,s.C.toNat,[],[],[],m,s.qH.length,0,0,0⟩:=by unfold vK;rw[ay (show St0.nx=0 from rfl)];unfold Kr;rw[eb];simp only;rw[g1];simp only;rw[en];simp only;rw[e6,e7,e8,e10,e14,e18];rfl
 conv=>lhs;unfold L6
 rw[ay ⟨by rw[tu];exact hz.symm,aC⟩,hr];simp only;unfold tV;rw[tu,GG];rfl
theorem anv{s:Sh}(hL:s.Listed)(hW:s.Few)(hG:s.OC)(ts:List (ak)):∃pl,L6 ⟨s.K.toNat,s.N.toNat,s.I.toNat,s.C.toNat,[],[],[],(yD s).length,s.qH.length,0,1,32⟩ (rJ (yD s)::ts)=L6 ⟨s.K.toNat,s.N.toNat,s.I.toNat,s.C.toNat,s.ns,s.zs.map Int.toNat,[],(yD s).length,s.qH.length,Fv s.zs,if s.qH=[]then 3 else 2,pl⟩ ts:=by
 obtain⟨g1,g2⟩:=Rk (s:=⟨s.K.toNat,s.N.toNat,s.I.toNat,s.C.toNat,[],[],[],(yD s).length,s.qH.length,0,1,32⟩) (l:=yD s) (sz1 rfl);have hl:AB (yD s)=.ok (s.ns,s.zs.map Int.toNat):=ah0 hL.len hL.names hW.ai_ hW.bytes
 have hr:vK ⟨s.K.toNat,s.N.toNat,s.I.toNat,s.C.toNat,[],[],[],(yD s).length,s.qH.length,0,1,32⟩ (rJ (yD s))=.ok ⟨s.K.toNat,s.N.toNat,s.I.toNat,s.C.toNat,s.ns,s.zs.map Int.toNat,[],(yD s).length,s.qH.length,Fv s.zs,1,32⟩:=by unfold vK;rw[au ax,ay rfl];unfold VU;rw[g1,g2];simp only;rw[hl];simp only;rw[ay (by exact hG)];rfl
 refine⟨32+((yD s).length+8),?_⟩
 conv=>lhs;unfold L6
 rw[ay ⟨by rw[tu,sz1 rfl],ax⟩,hr];simp only;unfold tV;rw[tu];simp only
 congr 2
 unfold x_;simp only;rw[au aC,au aC];by_cases q:s.qH=[]
 .rw[ay q,au (by rw[q];simp)]
 .have:=lX.2 q;rw[au q,ay (by simpa using this)]
theorem aqe{s:Sh}(hF:s.L8)(hL:s.Listed)(hW:s.Few)(hG:s.OC)(hB:¬s.Bad):∃st,L6 St0 (pieces s)=some st/\st.nx=4/\st.shd=Ry s:=by
 have hk:1<=s.K.toNat:=by have:=hF.k1;omega
 have hl:s.qH.length<=65536:=by have h1:=D5 (t:=Fv s.zs) hk;have h2:=hW.bytes;have h3:s.qH.length=_:=hG;omega
 have hm:(yD s).length=Jp s.ns:=CX s;have hm4:4<=Jp s.ns:=by unfold Jp;omega
 unfold pieces;rw[akS hF ag (by have:=hW.OD;omega) hl];obtain⟨p1,e1⟩:=anv hL hW hG (frL s.C.toNat s.qH.length s.qH++[vH]);rw[e1]
 obtain⟨p2,e2⟩:=V7 (c:=s.C.toNat) (by have:=hF.c1;omega) [vH] s.qH.length s.qH ⟨s.K.toNat,s.N.toNat,s.I.toNat,s.C.toNat,s.ns,s.zs.map Int.toNat,[],(yD s).length,s.qH.length,Fv s.zs,if s.qH=[]then 3 else 2,p1⟩ (az _) rfl rfl ax (by
  intro m hm hu;simp only[dA]at hm hu⊢;by_cases q:tZ s.qH m=0
  .exact q
  .exfalso;have h3:s.qH.length=_:=hG;unfold BF at hu;by_cases hki:s.K.toNat<=s.I.toNat
   .rw[ay hki]at hu;omega
   .rw[au hki]at hu;refine hB ⟨by have:=hF.k1;omega,m,hm,?_,q⟩;omega)
 rw[e2];refine⟨tV ⟨s.K.toNat,s.N.toNat,s.I.toNat,s.C.toNat,s.ns,s.zs.map Int.toNat,[]++s.qH,(yD s).length,s.qH.length,Fv s.zs,3,p2⟩ vH,?_,?_,?_⟩
 .unfold L6;rw[ay ⟨(sz3 rfl).symm,ax⟩]
  have:vK ⟨s.K.toNat,s.N.toNat,s.I.toNat,s.C.toNat,s.ns,s.zs.map Int.toNat,[]++s.qH,(yD s).length,s.qH.length,Fv s.zs,3,p2⟩ vH=.ok ⟨s.K.toNat,s.N.toNat,s.I.toNat,s.C.toNat,s.ns,s.zs.map Int.toNat,[]++s.qH,(yD s).length,s.qH.length,Fv s.zs,3,p2⟩:=by
   unfold vK;rw[au ax,au ax,au ax];unfold Kt;have:Dj vH vH=none:=by simpa using YY vH []
   rw[this];simp only;rw[au (by rw[sz3 rfl];decide)]
  simp only at this⊢;rw[this];rfl
 .rfl
 .simp[St.shd,Ry,tV]
theorem aks{s:Sh}(hF:s.L8)(hL:s.Listed)(hW:s.Few)(hG:s.OC)(hB:¬s.Bad)(x:ak):qY (Jm s++x)=if x=[]then .ok (Ry s)else .error (9,(Jm s).length):=by obtain⟨st,h1,h2,h3⟩:=aqe hF hL hW hG hB;rw[<-acK hF.c1,<-h3];exact ahB h1 h2 x
