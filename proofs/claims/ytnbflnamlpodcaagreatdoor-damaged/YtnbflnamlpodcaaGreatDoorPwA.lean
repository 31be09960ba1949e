import Derived.Test.YtnbflnamlpodcaaGreatDoorDfD
set_option maxHeartbeats 8000000
set_option maxRecDepth 100000
namespace Go.Proofs.Y
open Go.Proofs.Tryz
open Go.RowKit Go.Deep Go.Lf Go.Conc Go.Hp
section
variable {P:Program}{X:Nat->Prop}{Y:Nat->Option Obj}{D:Nat->World->Array Event->Prop}{Stop:Goroutine->World->Prop}{f:FuncId}{k:List Item}{cs:List Frame}{v:World}
theorem agW(hD:vw X D){fn:Func}(hf:P.funcs[f]?=some fn){T:Array Value}{c:Frame}{y:Value}(BF:∀τ d,(results fn T).run P {v with tape:=τ,drawn:=d}=.ok y {v with tape:=τ,drawn:=d})
  (h:∀w,qL X Y w v->rV P D Stop (G (c.finish y) cs) w):uh P X Y D Stop f (c::cs) (.code .ret::k) ⟨T,[]⟩ v:=
 λw hs=>.next rfl λd=>⟨G {Dn none [] f T (.code .ret::k)with mode:=.returning} (c::cs),w.at d,#[],rfl,hD.nil (ak _),Nb hD hf BF h _ (hs.at d)⟩
end
section
variable {X:Nat->Prop}{Y:Nat->Option Obj}{D:Nat->World->Array Event->Prop}{Stop:Goroutine->World->Prop}{w:World}{K N C m cap:Nat}{bo:Option Addr}{f:Nat->qY}{d:qY->List UInt8}{fr:Frame}{cs:List Frame}
end
noncomputable def xM:Code:=Tryz.f19.body.getD .skip
noncomputable def YA:Code:=qo (qo xM)
noncomputable def ad5:Code:=qo YA
noncomputable def ad6:Code:=qo ad5
theorem agX:xM=.seq (qJ xM) (.seq (qJ (qo xM)) YA):=ag
def aq5:Code->Code| .cond _ x _=>x|c=>c
theorem ao9:YA=.seq (.seq (qJ (qJ YA)) (.seq (qJ (qo (qJ YA))) (.cond (.tmp 13) (.seq (qJ (aq5 (qo (qo (qJ YA))))) .ret) .skip))) ad5:=ag
theorem amy:YA=.seq (qJ YA) ad5:=ag
noncomputable def qa5:{y:Array Oper//y=uk (qJ ad5)}:=⟨_,by(simp only[ad5,YA,xM,qJ,qo,uk,Tryz.f19,aB];rfl)⟩
noncomputable def aO5:Array Oper:=qa5.1
theorem ao_:ad5=.seq (.region 5 aO5 false) ad6:=ag
theorem ajZ:aO5.size=7:=ag
theorem agY:∃fn,prog.funcs[19]?=some fn:=⟨_,func19⟩
def Ta(f:Nat->Value)(a4 a5 a6 a7:Value):Array Value:=#[f 0,f 1,f 2,f 3,a4,a5,a6,a7,f 8,f 9,f 10,f 11,f 12,f 13,f 14,f 15,f 16,f 17,f 18,f 19,f 20,f 21,f 22,f 23,f 24,f 25,f 26,f 27,f 28,f 29,f 30,f 31,f 32,f 33,f 34]
theorem aee{T:Array Value}(h:T=#[T.getD 0 undef,T.getD 1 undef,T.getD 2 undef,T.getD 3 undef,T.getD 4 undef,T.getD 5 undef,T.getD 6 undef,T.getD 7 undef,T.getD 8 undef,T.getD 9 undef,T.getD 10 undef,T.getD 11 undef,T.getD 12 undef,T.getD 13 undef,T.getD 14 undef,T.getD 15 undef,T.getD 16 undef,T.getD 17 undef,T.getD 18 undef,T.getD 19 undef,T.getD 20 undef,T.getD 21 undef,T.getD 22 undef,T.getD 23 undef,T.getD 24 undef,T.getD 25 undef,T.getD 26 undef,T.getD 27 undef,T.getD 28 undef,T.getD 29 undef,T.getD 30 undef,T.getD 31 undef,T.getD 32 undef,T.getD 33 undef,T.getD 34 undef]):T=Ta (λi=>T.getD i undef) (T.getD 4 undef) (T.getD 5 undef) (T.getD 6 undef) (T.getD 7 undef):=h
def TA1(vs:Value)(T:Array Value):Prop:=∃f:Nat->Value,T=Ta f vs (f 5) (f 6) (f 7)
def TA2(vs vd ve:Value)(T:Array Value):Prop:=∃f:Nat->Value,T=Ta f vs (f 5) vd ve
noncomputable def ahr(T:Array Value):Frame:=(base 19).at ⟨T,[]⟩ (.inRegion aO5 [1,2,3,4,5,6]::[.code ad6])
structure Prm(n:Nat)(g:Nat->Nat):Prop where
 lt:∀i,i<n->g i<n
 inj:∀i j,i<n->j<n->i≠j->g i≠g j
 onto:∀j,j<n->∃i,i<n/\g i=j
def shS(M:Nat)(sh:Nat->xg)(vN vS vC:Nat->Value)(i:Nat):List Value:=if i<M then VR (sh i) (vN i) (vS i) (vC i)else List.replicate 7 (.int .i64 0)
theorem aj0{w:World}{bo:Option Addr}{M:Nat}{sh:Nat->xg}{vN vS vC:Nat->Value}(h:TQ w bo M sh vN vS vC):Sr (shS M sh vN vS vC):=by
 refine⟨λi=>?_,λi u hu=>?_⟩
 .unfold shS;split
  .rfl
  .simp
 .unfold shS at hu;split at hu
  .rename_i hi;have e1:=(h.nm i hi).1.one;have e2:=(h.sz i hi).1.one;have e3:=(h.cl i hi).one;simp only[VR,dA,aua,or_false]at hu;rcases hu with rfl|rfl|rfl|rfl|rfl|rfl|rfl
   .rfl
   .rfl
   .rfl
   .rfl
   .exact e1
   .exact e2
   .exact e3
  .obtain rfl:=List.eq_of_mem_replicate hu;rfl
theorem aef{w w':World}{bo:Option Addr}{M:Nat}{sh:Nat->xg}{vN vS vC:Nat->Value}{r:Ending}(h:TQ w bo M sh vN vS vC)(hx:∀i,i<M->(sh i).i<256)(hI:ByI (shS M sh vN vS vC) (λi=>(sh i).i) M w r w'):
  Below w.heap.size w w'/\∃(g:Nat->Nat)(bs:Option Addr)(cp:Nat),r=.returned (.slice bs M cp)/\Prm M g/\(∀i,i+1<M->(sh (g i)).i<=(sh (g (i+1))).i)/\TQ w' bs M (λi=>sh (g i)) (λi=>vN (g i)) (λi=>vS (g i)) (λi=>vC (g i)):=by
 obtain⟨hb,out,v,rfl,⟨σ,τ,uw,ho⟩,Yz,uK⟩:=hI;refine⟨hb,?_⟩;have hl:∀i,i<M->(out i).l=σ i:=λi hi=>by rw[ho i hi];rfl
 have hk:∀i,i<M->zQ (out i)=(sh (σ i)).i:=λi hi=>by rw[ho i hi];exact ab6 (hx _ (uw i hi).1)
 have hsg:∀i,i<M->∃b,(out i).k=[b]:=λi hi=>by rw[ho i hi];exact⟨_,rfl⟩
 have hv:∃bs cp,v=.slice bs M cp/\(0<M->∃g,bs=some ⟨g,0,none⟩):=by
  rcases uK.2 with⟨h1,h0⟩|⟨g,c,_,h1,_⟩
  .exact⟨none,0,by rw[h1,h0],λh=>ae⟩
  .exact⟨_,c,h1,λ_=>⟨g,rfl⟩⟩
 obtain⟨bs,cp,rfl,hbs⟩:=hv;refine⟨σ,bs,cp,rfl,⟨λi hi=>(uw i hi).1,λi j hi hj hne e=>hne ?_,λj hj=>⟨τ j,(uw j hj).2.1,(uw j hj).2.2.2⟩⟩,λi hi=>?_,?_,λi hi=>?_,λi hi=>?_,λi hi=>?_,λi hi=>h.kn _ (uw i hi).1⟩
 .have a1:=(uw i hi).2.2.1;have a2:=(uw j hj).2.2.1;rw[e,a2]at a1;exact a1.symm
 .have:=Yz i hi;unfold Hp.le at this;rw[adz (hsg _ ae) (hsg _ ae),hk _ ae,hk _ ae]at this;have:=iL this;omega
 .intro hn;obtain⟨g,rfl⟩:=hbs hn;have hS:=aj0 h;refine⟨g,0,rfl,?_,λi hi=>?_⟩
  .have:=yM (c:=λe=>shS M sh vN vS vC e.l) (λe=>hS.len e.l) uK hn 0 ((shS M sh vN vS vC (out 0).l)[0]'(by rw[hS.len];omega)) (a_ _);exact rM this
  .have:=yM (c:=λe=>shS M sh vN vS vC e.l) (λe=>hS.len e.l) uK hi;rw[hl i hi,shS,aj (uw i hi).1]at this;rw[aT];exact this
 .exact⟨(h.nm _ (uw i hi).1).1.adw hb (ak _),(h.nm _ (uw i hi).1).2⟩
 .exact⟨(h.sz _ (uw i hi).1).1.adw hb (ak _),(h.sz _ (uw i hi).1).2⟩
 .exact(h.cl _ (uw i hi).1).adw hb (ak _)
theorem NQ{w:World}(τ:Nat->Question->Nat)(d:Nat){k:Nat}{v:Value}{e p:Nat}(h:sG w k v e p):sG {w with tape:=τ,drawn:=d} k v e p:=XE (w:=w) (w':={w with tape:=τ,drawn:=d}) ⟨ak w.heap.size,λ_ _ _ _ h=>h⟩ h
theorem FX.one{n:Nat}{sh:Nat->xg}{e e':Nat}(h:FX n sh e)(h':FX n sh e'):e'=e:=by rcases h with⟨rfl,a⟩|⟨rfl,a,b⟩|⟨rfl,a,b,c⟩|⟨rfl,a,b,c,d⟩<;>rcases h' with⟨rfl,a'⟩|⟨rfl,a',b'⟩|⟨rfl,a',b',c'⟩|⟨rfl,a',b',c',d'⟩<;>first|rfl|contradiction|omega
theorem FX.some(n:Nat)(sh:Nat->xg):∃e,FX n sh e:=by
 by_cases h1:CX n sh
 .by_cases h2:Dup n sh
  .exact⟨11,.inr (.inl ⟨rfl,h1,h2⟩)⟩
  .by_cases h3:n=0\/n<(sh 0).k
   .exact⟨12,.inr (.inr (.inl ⟨rfl,h1,h2,h3⟩))⟩
   .exact⟨0,.inr (.inr (.inr ⟨rfl,h1,h2,ae,ae⟩))⟩
 .exact⟨10,.inl ⟨rfl,h1⟩⟩
theorem aj1(ns:List (List UInt8))(sz:List Nat)(l:List UInt8)(vN vS vd:Value)(w:World)(hN:qR w vN (wO ns))(hS:qR w vS (zF sz))(hD:qR w vd (r_ l))(hV:NP vd l.length)(O0:ns.length<=sz.length)(hsum:sz.sum=l.length)(hn:ns.length<=1048576)(hl:l.length<=1048576):
  Calls prog 39 #[vN,vS,vd] w λr w'=>Below w.heap.size w w'/\∃vd,r=.returned (.slice (some ⟨w.heap.size,0,none⟩) ns.length ns.length)/\CB ns sz l w.heap.size ns.length vd w':=by
 rcases hV with⟨rfl,h0⟩|⟨b,off,cap,rfl,hc⟩
 .obtain rfl:l=[]:=kR h0;refine agq ns sz vN vS w hN hS O0 (λi hi=>?_) hn;have h1:=IY hi;have h2:=ajq sz (i+1);simp only[dB]at hsum;omega
 .exact agp ns sz l vN vS b off cap w hN hS hD hc O0 ae hn hl
section
variable {X:Nat->Prop}{Y:Nat->Option Obj}{D:Nat->World->Array Event->Prop}{Stop:Goroutine->World->Prop}{w:World}{cs:List Frame}{fr:Frame}{M cap:Nat}{bo:Option Addr}{sh:Nat->xg}{vN vS vC:Nat->Value}{T:Array Value}
theorem anr(sW:vw X D)(hS:TQ w bo M sh vN vS vC)(hM:M<=1048576)(hx:∀i,i<M->(sh i).i<256)
  (qH:∀(T:Array Value)(g:Nat->Nat)(bs:Option Addr)(cp:Nat)(w':World),TA1 (.slice bs M cp) T->Prm M g->(∀i,i+1<M->(sh (g i)).i<=(sh (g (i+1))).i)->TQ w' bs M (λi=>sh (g i)) (λi=>vN (g i)) (λi=>vS (g i)) (λi=>vC (g i))->sK w.heap.size w w'->
   uh prog X Y D Stop 19 cs [.code YA] ⟨T,[]⟩ w'):
  uh prog X Y D Stop 19 cs [.code xM] ⟨#[.slice bo M cap]++Array.replicate 34 undef,[]⟩ w:=by
 rw[agX];simp only[cu,b_,bU,bY,bg,aV];refine qQ qZ sW ag rfl agY λR hR τ d'=>?_
 have bl:sK w.heap.size w {w with tape:=τ,drawn:=d'}:=(sK.refl _ w).tp τ d';generalize({w with tape:=τ,drawn:=d'}:World)=wA at bl⊢;simp only[qJ,xM,Tryz.f19,aB];go_wp2;refine qQ qZ sW ag rfl agY λR hR τ d'=>?_
 replace bl:=bl.tp τ d';generalize({wA with tape:=τ,drawn:=d'}:World)=wB at bl⊢;simp only[qJ,qo,xM,Tryz.f19,aB];have Hr:=hS.AZ bl
 have hSC:SC wB bo M (shS M sh vN vS vC):=λhn=>by obtain⟨b,o,e,hl,hc⟩:=Hr.cells hn;exact⟨b,o,e,hl,λi hi=>by rw[shS,aj hi];exact hc i hi⟩
 have k1:=ab7 (aj0 hS) (λi=>(sh i).i) M cap bo wB hM hSC (λi hi=>⟨hx i hi,by rw[shS,aj hi];rfl⟩)
 go_wp2_with(first|(go_at_call 35;(with_reducible refine k1.mono ?_);rintro r w1 hI;obtain⟨t_,g,bs,cp,rfl,hP,Yz,Nw⟩:=aef Hr hx hI))
 exact qH _ g bs cp w1 ⟨_,aee rfl⟩ hP Yz Nw (bl.trans (sK.of t_) bl.sH)
theorem apL(sW:vw X D)(hT:TA1 (.slice bo M cap) T)(hS:TQ w bo M sh vN vS vC)(hM:M<=1048576){e:Nat}(hE:FX M sh e)(he:e≠0)
  (qH:∀ev p w',sG w' 1 ev e p->sK w.heap.size w w'->∀z,qL X Y z w'->rV prog D Stop (G (fr.finish (.tuple #[.slice none 0 0,ev])) cs) z):
  uh prog X Y D Stop 19 (fr::cs) [.code YA] ⟨T,[]⟩ w:=by
 obtain⟨f,rfl⟩:=hT;unfold Ta;rw[ao9];refine IQ.1 (qx sW (qx sW (rY qZ sW ag agY λR hR τ d=>?_)));have bl:sK w.heap.size w {w with tape:=τ,drawn:=d}:=(sK.refl _ w).tp τ d;generalize({w with tape:=τ,drawn:=d}:World)=wA at bl⊢;have k1:=OQ M cap bo sh vN vS vC wA hM (hS.AZ bl);simp only[YA,qJ,qo,xM,Tryz.f19,aB]
 go_wp2_with(first|(go_at_call 36;(with_reducible refine k1.mono ?_);rintro r w1 ⟨t_,e',v,hE',rfl,h1,h2⟩))
 obtain rfl:e'=e:=hE.one hE';obtain⟨p,Yo⟩:=h2 he;clear h1 h2;replace bl:=bl.trans (sK.of t_) bl.sH;refine qx sW (rY qZ sW ag agY λR hR τ d=>?_);replace bl:=bl.tp τ d;replace Yo:=NQ τ d Yo;generalize({w1 with tape:=τ,drawn:=d}:World)=w2 at bl Yo⊢;obtain⟨ty,x,rfl⟩:=Yo.iface;simp only[YA,qJ,qo,xM,Tryz.f19,aB];go_wp2;refine yI sW (b:=true) ax ?_;simp only[aF];refine qx sW (rY qZ sW ag agY λR hR τ d=>?_);replace bl:=bl.tp τ d;replace Yo:=NQ τ d Yo;generalize({w2 with tape:=τ,drawn:=d}:World)=w3 at bl Yo⊢;simp only[YA,qJ,qo,aq5,xM,Tryz.f19,aB]
 go_wp2_with(first|(go_at_call 37;refine(yD _ 0 _ e' p _ Yo).mono ?_;rintro q w4 ⟨v4,rfl,h5,h6⟩))
 refine(IQ.2 (agW sW func19 (y:=.tuple #[.slice none 0 0,v4]) (λτ d=>results_tmp2 (fn:=Tryz.f19) (t:=2) (u:=3) rfl _ _ _) (qH v4 p w4 h5 (bl.trans (sK.of h6) bl.sH))))
theorem apJ(sW:vw X D)(hT:TA1 (.slice bo M cap) T)(hS:TQ w bo M sh vN vS vC)(hM:M<=1048576)(hE:FX M sh 0)
  (qH:∀T' w',TA1 (.slice bo M cap) T'->sK w.heap.size w w'->uh prog X Y D Stop 38 (ahr T'::cs) [.code xO] ⟨#[.slice bo M cap]++Array.replicate 75 undef,[]⟩ w'):
  uh prog X Y D Stop 19 cs [.code YA] ⟨T,[]⟩ w:=by
 obtain⟨f,rfl⟩:=hT;unfold Ta;rw[amy];refine qQ qZ sW ag rfl agY λR hR τ d=>?_
 have bl:sK w.heap.size w {w with tape:=τ,drawn:=d}:=(sK.refl _ w).tp τ d;generalize({w with tape:=τ,drawn:=d}:World)=wA at bl⊢;have k1:=OQ M cap bo sh vN vS vC wA hM (hS.AZ bl);simp only[YA,qJ,qo,xM,Tryz.f19,aB]
 go_wp2_with(first|(go_at_call 36;(with_reducible refine k1.mono ?_);rintro r w1 ⟨t_,e',v,hE',rfl,h1,h2⟩;obtain rfl:e'=0:=hE.one hE';obtain rfl:=h1 rfl))
 clear h2 k1;replace bl:=bl.trans (sK.of t_) bl.sH;rw[ao_];refine vX sW rfl (BQ sW ?_);rw[ajZ];simp only[List.range,List.range.loop];refine qw qZ sW (.slice bo M cap) jv rfl ag (λz _=>aN) ?_;walk_nrm;refine xH sW jv rfl ax func38 ag (c:=xO) ag (vs:=#[.slice bo M cap]) (n:=75) fQ ag ?_;unfold ahr at qH;exact qH _ _ ⟨_,aee rfl⟩ bl
theorem aex(sW:vw X D)(hT:TA1 (.slice bo M cap) T){vd ve:Value}
  (qH:∀T',TA2 (.slice bo M cap) vd ve T'->rD prog X Y D Stop none [] 19 cs [.code ad6] T' w):
  ∀z,qL X Y z w->rV prog D Stop (G ((ahr T).finish (.tuple #[vd,ve])) cs) z:=by
 rw[show ahr T=Dn none [] 19 T (.inRegion aO5 [1,2,3,4,5,6]::[.code ad6])from rfl];rw[wU jv];show rD _ _ _ _ _ _ _ _ _ _ _ _;obtain⟨g,rfl⟩:=hT;unfold Ta;walk_nrm;refine qw qZ sW (.tuple #[vd,ve]) jv rfl ag (λz _=>aN) ?_;walk_nrm;refine qw qZ sW vd jv rfl ag (λz _=>aN) ?_;walk_nrm;refine qw qZ sW ve jv rfl ag (λz _=>aN) ?_;walk_nrm;refine qw qZ sW vd jv rfl ag (λz _=>aN) ?_;walk_nrm;refine qw qZ sW ve jv rfl ag (λz _=>aN) ?_;walk_nrm;exact tZ sW (qH _ ⟨_,aee rfl⟩)
theorem anv(sW:vw X D){vd ve:Value}{e p:Nat}(hT:TA2 (.slice bo M cap) vd ve T)(Yo:sG w 0 ve e p)
  (qH:∀ev w',sG w' 1 ev e p->sK w.heap.size w w'->∀z,qL X Y z w'->rV prog D Stop (G (fr.finish (.tuple #[.slice none 0 0,ev])) cs) z):
  uh prog X Y D Stop 19 (fr::cs) [.code ad6] ⟨T,[]⟩ w:=by
 refine JX qZ sW ag func19 (R:=λy w'=>∃ev,y=.tuple #[.slice none 0 0,ev]/\sG w' 1 ev e p/\sK w.heap.size w w') (λτ d=>?_) (λy v' ⟨ev,h1,h2,h3⟩=>h1▸qH ev v' h2 h3);have bl:sK w.heap.size w {w with tape:=τ,drawn:=d}:=(sK.refl _ w).tp τ d;replace Yo:=NQ τ d Yo;generalize({w with tape:=τ,drawn:=d}:World)=wA at bl Yo⊢;obtain⟨f,rfl⟩:=hT;unfold Ta
 conv in ad6=>simp only[ad6,ad5,YA,xM,qo,Tryz.f19,aB]
 obtain⟨ty,x,rfl⟩:=Yo.iface
 go_wp2_with(first|(go_at_call 37;refine(yD _ 0 _ e p _ Yo).mono ?_;rintro q w4 ⟨v4,rfl,h5,h6⟩))
 go_ret2;exact⟨_,rfl,v4,rfl,h5,bl.trans (sK.of h6) bl.sH⟩
theorem anu(sW:vw X D){vd:Value}{l:List UInt8}(hT:TA2 (.slice bo M cap) vd .nilIface T)(hS:TQ w bo M sh vN vS vC)(hM:0<M)(hD:qR w vd (r_ l))(hV:NP vd l.length)(O0:(sh 0).names.length=(sh 0).sizes.length)(hsum:(sh 0).sizes.sum=l.length)(hl:l.length<=1048576)
  (qH:∀g vb w',CB (sh 0).names (sh 0).sizes l g (sh 0).names.length vb w'->sK w.heap.size w w'->w.heap.size<=g->∀z,qL X Y z w'->rV prog D Stop (G (fr.finish (.tuple #[.slice (some ⟨g,0,none⟩) (sh 0).names.length (sh 0).names.length,.nilIface])) cs) z):
  uh prog X Y D Stop 19 (fr::cs) [.code ad6] ⟨T,[]⟩ w:=by
 refine JX qZ sW ag func19 (R:=λy w'=>∃g vb,y=.tuple #[.slice (some ⟨g,0,none⟩) (sh 0).names.length (sh 0).names.length,.nilIface]/\CB (sh 0).names (sh 0).sizes l g (sh 0).names.length vb w'/\sK w.heap.size w w'/\w.heap.size<=g) (λτ d=>?_) (λy v' ⟨g,vb,h1,h2,h3,h4⟩=>h1▸qH g vb v' h2 h3 h4);have bl:sK w.heap.size w {w with tape:=τ,drawn:=d}:=(sK.refl _ w).tp τ d;generalize({w with tape:=τ,drawn:=d}:World)=wA at bl⊢;obtain⟨f,rfl⟩:=hT;unfold Ta;have Hr:=hS.AZ bl;have h0n:(0:Int)<(M:Int):=ae;obtain⟨b,o,rfl,Ns,hcell⟩:=Hr.cells hM;have r0:=hcell 0 hM;unfold VR at r0;obtain⟨q0,q1,q2,q3,q4,q5,q6⟩:=PU r0;simp only[fH,eY]at q4 q5;have k1:=aj1 (sh 0).names (sh 0).sizes l (vN 0) (vS 0) vd wA.drew (qR.drewN (Hr.nm 0 hM).1 1) (qR.drewN (Hr.sz 0 hM).1 1) (qR.drewN (N8 bl hD) 1) hV ae hsum (Hr.nm 0 hM).2 hl
 conv in ad6=>simp only[ad6,ad5,YA,xM,qo,Tryz.f19,aB]
 clear q0 q1 q2 q3 q6 r0 hcell O0 hsum
 go_wp2_with fail
 have VS:sK w.heap.size w wA.drew:=bl.trans (sK.of (aA _ _).drew) bl.sH
 go_region_with (first|(go_at_call 39;(with_reducible refine k1.mono ?_);rintro r w2 ⟨sZ,vb,rfl,hCB⟩))
 all_goals
  go_wp2;go_ret2;exact⟨_,rfl,_,vb,rfl,hCB,VS.trans (sK.of sZ) VS.sH,VS.sH⟩
end
end Go.Proofs.Y
namespace Go.Proofs.Y
open Go.Proofs.Tryz
def KH:St->List (List UInt8)->Option St
 |s,[]=>some s
 |s,t::ts=>if t.length=s.sz/\s.nx≠4 then match uX s t with
  | .ok s'=>KH (sV s' t) ts
  | .error _=>none
  else none
theorem aj2{Z t u:List UInt8}{a:Nat}(h:At Z a (t++u)):At Z a t/\At Z (a+t.length) u:=by
 have h1:=h.1;rw[aS]at h1;refine⟨⟨ae,λi hi=>?_⟩,⟨ae,λi hi=>?_⟩⟩
 .rw[h.2 i az];simp only[tJ,aO];rw[fF hi]
 .rw[dw,h.2 (t.length+i) az];simp only[tJ,aO];rw[iW ae,gZ]
theorem acD(x t y:List UInt8):At (x++t++y) x.length t:=by refine⟨ai,λi hi=>?_⟩;simp only[tJ,aO];rw[fF az,iW ae,gZ]
theorem ab8:∀(ts:List (List UInt8))(s s':St)(Z:List UInt8),Good s Z->At Z s.pl ts.flatten->KH s ts=some s'->Good s' Z/\s'.pl=s.pl+ts.flatten.length
 |[],s,s',Z,hG,_,h=>by cases h;exact⟨hG,rfl⟩
 |t::ts,s,s',Z,hG,hA,h=>by
  unfold KH at h;split at h
  .rename_i hc;cases hr:uX s t with
   |error e=>rw[hr]at h;cases h
   |ok s1=>
    rw[hr]at h;rw[jq]at hA;obtain⟨h1,h2⟩:=aj2 hA;obtain⟨_,g1,g2,_⟩:=afi hG hc.2 h1 ae hr;have hp:(sV s1 t).pl=s.pl+t.length:=by show s1.pl+t.length=_;rw[g2]
    obtain⟨g3,g4⟩:=ab8 ts _ s' Z g1 (by rw[hp];exact h2) h;refine⟨g3,?_⟩;rw[g4,hp,jq,aS];omega
  .cases h
def St0:St:=⟨0,0,0,0,[],[],[],0,0,0,0,0⟩
theorem afu{ts:List (List UInt8)}{s:St}(h:KH St0 ts=some s)(h4:s.nx=4)(x:List UInt8):qP (ts.flatten++x)=if x=[]then .ok s.shd else .error (9,ts.flatten.length):=by
 obtain⟨g1,g2⟩:=ab8 ts St0 s (ts.flatten++x) (.head rfl rfl rfl) (acD [] ts.flatten x) h;have g2':s.pl=ts.flatten.length:=by rw[g2];exact aT _
 rw[abY g1 h4,g2'];by_cases hx:x=[]
 .rw[aj hx,aj (by rw[hx];simp)]
 .have:0<x.length:=kK.2 hx;rw[ah hx,ah az]
