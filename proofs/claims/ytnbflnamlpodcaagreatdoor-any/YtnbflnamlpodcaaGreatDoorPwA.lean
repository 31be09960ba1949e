import Derived.Test.YtnbflnamlpodcaaGreatDoorDfD
set_option maxHeartbeats 8000000
set_option maxRecDepth 100000
namespace Go.Proofs.Y
open Go.RowKit Go.Deep Go.Lf Go.Conc Go.Hp
section
variable {P:Program}{X:Nat->Prop}{Y:Nat->Option Obj}{D:Nat->World->Array Event->Prop}{Stop:Goroutine->World->Prop}{f:FuncId}{k:List Item}{cs:List Frame}{v:World}
theorem ac0(hD:uo X D){fn:Func}(hf:P.funcs[f]?=some fn){T:Array Value}{c:Frame}{y:Value}(hres:∀τ d,(results fn T).run P {v with tape:=τ,drawn:=d}=.ok y {v with tape:=τ,drawn:=d})
  (h:∀w,qH X Y w v->ru P D Stop (G (c.finish y) cs) w):sK P X Y D Stop f (c::cs) (.code .ret::k) ⟨T,[]⟩ v:=
 λw hs=>.next rfl λd=>⟨G {Dn none [] f T (.code .ret::k)with mode:=.returning} (c::cs),w.at d,#[],rfl,hD.nil (ak _),Jl hD hf hres h _ (hs.at d)⟩
end
section
variable {X:Nat->Prop}{Y:Nat->Option Obj}{D:Nat->World->Array Event->Prop}{Stop:Goroutine->World->Prop}{w:World}{K N C m cap:Nat}{bo:Option Addr}{f:Nat->qQ}{d:qQ->List UInt8}{fr:Frame}{cs:List Frame}
end
noncomputable def v_:Code:=Tryz.f19.body.getD .skip
noncomputable def UB:Code:=qo (qo v_)
noncomputable def ad5:Code:=qo UB
noncomputable def ad6:Code:=qo ad5
theorem ac1:v_=.seq (qG v_) (.seq (qG (qo v_)) UB):=ag
def alS:Code->Code| .cond _ x _=>x|c=>c
theorem aki:UB=.seq (.seq (qG (qG UB)) (.seq (qG (qo (qG UB))) (.cond (.tmp 13) (.seq (qG (alS (qo (qo (qG UB))))) .ret) .skip))) ad5:=ag
theorem ah2:UB=.seq (qG UB) ad5:=ag
noncomputable def qa5:{y:Array Oper//y=sN (qG ad5)}:=⟨_,by(simp only[ad5,UB,v_,qG,qo,sN,Tryz.f19,aB];rfl)⟩
noncomputable def aO5:Array Oper:=qa5.1
theorem akj:ad5=.seq (.region 5 aO5 false) ad6:=ag
theorem af6:aO5.size=7:=ag
theorem ac2:∃fn,Tryz.prog.funcs[19]?=some fn:=⟨_,Tryz.func19⟩
def Ta(f:Nat->Value)(a4 a5 a6 a7:Value):Array Value:=#[f 0,f 1,f 2,f 3,a4,a5,a6,a7,f 8,f 9,f 10,f 11,f 12,f 13,f 14,f 15,f 16,f 17,f 18,f 19,f 20,f 21,f 22,f 23,f 24,f 25,f 26,f 27,f 28,f 29,f 30,f 31,f 32,f 33,f 34]
theorem aaw{T:Array Value}(h:T=#[T.getD 0 undef,T.getD 1 undef,T.getD 2 undef,T.getD 3 undef,T.getD 4 undef,T.getD 5 undef,T.getD 6 undef,T.getD 7 undef,T.getD 8 undef,T.getD 9 undef,T.getD 10 undef,T.getD 11 undef,T.getD 12 undef,T.getD 13 undef,T.getD 14 undef,T.getD 15 undef,T.getD 16 undef,T.getD 17 undef,T.getD 18 undef,T.getD 19 undef,T.getD 20 undef,T.getD 21 undef,T.getD 22 undef,T.getD 23 undef,T.getD 24 undef,T.getD 25 undef,T.getD 26 undef,T.getD 27 undef,T.getD 28 undef,T.getD 29 undef,T.getD 30 undef,T.getD 31 undef,T.getD 32 undef,T.getD 33 undef,T.getD 34 undef]):T=Ta (λi=>T.getD i undef) (T.getD 4 undef) (T.getD 5 undef) (T.getD 6 undef) (T.getD 7 undef):=h
def TA1(vs:Value)(T:Array Value):Prop:=∃f:Nat->Value,T=Ta f vs (f 5) (f 6) (f 7)
def TA2(vs vd ve:Value)(T:Array Value):Prop:=∃f:Nat->Value,T=Ta f vs (f 5) vd ve
noncomputable def adw(T:Array Value):Frame:=(base 19).at ⟨T,[]⟩ (.inRegion aO5 [1,2,3,4,5,6]::[.code ad6])
structure Prm(n:Nat)(g:Nat->Nat):Prop where
 lt:∀i,i<n->g i<n
 inj:∀i j,i<n->j<n->i≠j->g i≠g j
 onto:∀j,j<n->∃i,i<n/\g i=j
def shS(M:Nat)(sh:Nat->vH)(vN vS vC:Nat->Value)(i:Nat):List Value:=if i<M then QY (sh i) (vN i) (vS i) (vC i)else List.replicate 7 (.int .i64 0)
theorem af7{w:World}{bo:Option Addr}{M:Nat}{sh:Nat->vH}{vN vS vC:Nat->Value}(h:O4 w bo M sh vN vS vC):Oq (shS M sh vN vS vC):=by
 refine⟨λi=>?_,λi u hu=>?_⟩
 .unfold shS;split
  .rfl
  .simp
 .unfold shS at hu;split at hu
  .rename_i hi;have e1:=(h.nm i hi).1.one;have e2:=(h.sz i hi).1.one;have e3:=(h.cl i hi).one;simp only[QY,dw,anO,or_false]at hu;rcases hu with rfl|rfl|rfl|rfl|rfl|rfl|rfl
   .rfl
   .rfl
   .rfl
   .rfl
   .exact e1
   .exact e2
   .exact e3
  .obtain rfl:=List.eq_of_mem_replicate hu;rfl
theorem aax{w w':World}{bo:Option Addr}{M:Nat}{sh:Nat->vH}{vN vS vC:Nat->Value}{r:Ending}(h:O4 w bo M sh vN vS vC)(hx:∀i,i<M->(sh i).i<256)(hI:ByI (shS M sh vN vS vC) (λi=>(sh i).i) M w r w'):
  Below w.heap.size w w'/\∃(g:Nat->Nat)(bs:Option Addr)(cp:Nat),r=.returned (.slice bs M cp)/\Prm M g/\(∀i,i+1<M->(sh (g i)).i<=(sh (g (i+1))).i)/\O4 w' bs M (λi=>sh (g i)) (λi=>vN (g i)) (λi=>vS (g i)) (λi=>vC (g i)):=by
 obtain⟨hb,out,v,rfl,⟨σ,τ,hst,ho⟩,UA,hown⟩:=hI;refine⟨hb,?_⟩;have hl:∀i,i<M->(out i).l=σ i:=λi hi=>by rw[ho i hi];rfl
 have hk:∀i,i<M->yD (out i)=(sh (σ i)).i:=λi hi=>by rw[ho i hi];exact Yh (hx _ (hst i hi).1)
 have hsg:∀i,i<M->∃b,(out i).k=[b]:=λi hi=>by rw[ho i hi];exact⟨_,rfl⟩
 have hv:∃bs cp,v=.slice bs M cp/\(0<M->∃g,bs=some ⟨g,0,none⟩):=by
  rcases hown.2 with⟨h1,h0⟩|⟨g,c,_,h1,_⟩
  .exact⟨none,0,by rw[h1,h0],λh=>ae⟩
  .exact⟨_,c,h1,λ_=>⟨g,rfl⟩⟩
 obtain⟨bs,cp,rfl,hbs⟩:=hv;refine⟨σ,bs,cp,rfl,⟨λi hi=>(hst i hi).1,λi j hi hj hne e=>hne ?_,λj hj=>⟨τ j,(hst j hj).2.1,(hst j hj).2.2.2⟩⟩,λi hi=>?_,?_,λi hi=>?_,λi hi=>?_,λi hi=>?_,λi hi=>h.kn _ (hst i hi).1⟩
 .have a1:=(hst i hi).2.2.1;have a2:=(hst j hj).2.2.1;rw[e,a2]at a1;exact a1.symm
 .have:=UA i hi;unfold Hp.le at this;rw[ZO (hsg _ ae) (hsg _ ae),hk _ ae,hk _ ae]at this;have:=iG this;omega
 .intro hn;obtain⟨g,rfl⟩:=hbs hn;have hS:=af7 h;refine⟨g,0,rfl,?_,λi hi=>?_⟩
  .have:=xu (c:=λe=>shS M sh vN vS vC e.l) (λe=>hS.len e.l) hown hn 0 ((shS M sh vN vS vC (out 0).l)[0]'(by rw[hS.len];omega)) (aY _);exact cell_lt this
  .have:=xu (c:=λe=>shS M sh vN vS vC e.l) (λe=>hS.len e.l) hown hi;rw[hl i hi,shS,aj (hst i hi).1]at this;rw[aS];exact this
 .exact⟨(h.nm _ (hst i hi).1).1.ZL hb (ak _),(h.nm _ (hst i hi).1).2⟩
 .exact⟨(h.sz _ (hst i hi).1).1.ZL hb (ak _),(h.sz _ (hst i hi).1).2⟩
 .exact(h.cl _ (hst i hi).1).ZL hb (ak _)
theorem Jz{w:World}(τ:Nat->Question->Nat)(d:Nat){k:Nat}{v:Value}{e p:Nat}(h:Chain w k v e p):Chain {w with tape:=τ,drawn:=d} k v e p:=Tu (w:=w) (w':={w with tape:=τ,drawn:=d}) ⟨ak w.heap.size,λ_ _ _ _ h=>h⟩ h
theorem Dy.one{n:Nat}{sh:Nat->vH}{e e':Nat}(h:Dy n sh e)(h':Dy n sh e'):e'=e:=by rcases h with⟨rfl,a⟩|⟨rfl,a,b⟩|⟨rfl,a,b,c⟩|⟨rfl,a,b,c,d⟩<;>rcases h' with⟨rfl,a'⟩|⟨rfl,a',b'⟩|⟨rfl,a',b',c'⟩|⟨rfl,a',b',c',d'⟩<;>first|rfl|contradiction|omega
theorem Dy.some(n:Nat)(sh:Nat->vH):∃e,Dy n sh e:=by
 by_cases h1:Ak n sh
 .by_cases h2:Dup n sh
  .exact⟨11,.inr (.inl ⟨rfl,h1,h2⟩)⟩
  .by_cases h3:n=0\/n<(sh 0).k
   .exact⟨12,.inr (.inr (.inl ⟨rfl,h1,h2,h3⟩))⟩
   .exact⟨0,.inr (.inr (.inr ⟨rfl,h1,h2,ae,ae⟩))⟩
 .exact⟨10,.inl ⟨rfl,h1⟩⟩
theorem af8(ns:List (List UInt8))(sz:List Nat)(l:List UInt8)(vN vS vd:Value)(w:World)(hN:Lies w vN (uV ns))(hS:Lies w vS (yh sz))(hD:Lies w vd (rF l))(hV:Jy vd l.length)(hln:ns.length<=sz.length)(hsum:sz.sum=l.length)(hn:ns.length<=1048576)(hl:l.length<=1048576):
  Calls Tryz.prog 39 #[vN,vS,vd] w λr w'=>Below w.heap.size w w'/\∃vd,r=.returned (.slice (some ⟨w.heap.size,0,none⟩) ns.length ns.length)/\CB ns sz l w.heap.size ns.length vd w':=by
 rcases hV with⟨rfl,h0⟩|⟨b,off,cap,rfl,hc⟩
 .obtain rfl:l=[]:=kH h0;refine acw ns sz vN vS w hN hS hln (λi hi=>?_) hn;have h1:=FP hi;have h2:=aft sz (i+1);simp only[dA]at hsum;omega
 .exact acv ns sz l vN vS b off cap w hN hS hD hc hln ae hn hl
section
variable {X:Nat->Prop}{Y:Nat->Option Obj}{D:Nat->World->Array Event->Prop}{Stop:Goroutine->World->Prop}{w:World}{cs:List Frame}{fr:Frame}{M cap:Nat}{bo:Option Addr}{sh:Nat->vH}{vN vS vC:Nat->Value}{T:Array Value}
theorem aiJ(rM:uo X D)(hS:O4 w bo M sh vN vS vC)(hM:M<=1048576)(hx:∀i,i<M->(sh i).i<256)
  (hnext:∀(T:Array Value)(g:Nat->Nat)(bs:Option Addr)(cp:Nat)(w':World),TA1 (.slice bs M cp) T->Prm M g->(∀i,i+1<M->(sh (g i)).i<=(sh (g (i+1))).i)->O4 w' bs M (λi=>sh (g i)) (λi=>vN (g i)) (λi=>vS (g i)) (λi=>vC (g i))->rJ w.heap.size w w'->
   sK Tryz.prog X Y D Stop 19 cs [.code UB] ⟨T,[]⟩ w'):
  sK Tryz.prog X Y D Stop 19 cs [.code v_] ⟨#[.slice bo M cap]++Array.replicate 34 undef,[]⟩ w:=by
 rw[ac1];simp only[cu,b_,bV,bY,bf,aW];refine qL qM rM ag rfl ac2 λR hR τ d'=>?_
 have bl:rJ w.heap.size w {w with tape:=τ,drawn:=d'}:=(rJ.refl _ w).tp τ d';generalize({w with tape:=τ,drawn:=d'}:World)=wA at bl⊢;simp only[qG,v_,Tryz.f19,aB];go_wp2;refine qL qM rM ag rfl ac2 λR hR τ d'=>?_
 replace bl:=bl.tp τ d';generalize({wA with tape:=τ,drawn:=d'}:World)=wB at bl⊢;simp only[qG,qo,v_,Tryz.f19,aB];have Hr:=hS.bel bl
 have hSC:SC wB bo M (shS M sh vN vS vC):=λhn=>by obtain⟨b,o,e,hl,hc⟩:=Hr.cells hn;exact⟨b,o,e,hl,λi hi=>by rw[shS,aj hi];exact hc i hi⟩
 have k1:=Yi (af7 hS) (λi=>(sh i).i) M cap bo wB hM hSC (λi hi=>⟨hx i hi,by rw[shS,aj hi];rfl⟩)
 go_wp2_with(first|(go_at_call 35;(with_reducible refine k1.mono ?_);rintro r w1 hI;obtain⟨hb1,g,bs,cp,rfl,hP,UA,hS1⟩:=aax Hr hx hI))
 exact hnext _ g bs cp w1 ⟨_,aaw rfl⟩ hP UA hS1 (bl.trans (rJ.of hb1) bl.size')
theorem akB(rM:uo X D)(hT:TA1 (.slice bo M cap) T)(hS:O4 w bo M sh vN vS vC)(hM:M<=1048576){e:Nat}(hE:Dy M sh e)(he:e≠0)
  (hnext:∀ev p w',Chain w' 1 ev e p->rJ w.heap.size w w'->∀z,qH X Y z w'->ru Tryz.prog D Stop (G (fr.finish (.tuple #[.slice none 0 0,ev])) cs) z):
  sK Tryz.prog X Y D Stop 19 (fr::cs) [.code UB] ⟨T,[]⟩ w:=by
 obtain⟨f,rfl⟩:=hT;unfold Ta;rw[aki];refine FK.1 (qw rM (qw rM (rG qM rM ag ac2 λR hR τ d=>?_)));have bl:rJ w.heap.size w {w with tape:=τ,drawn:=d}:=(rJ.refl _ w).tp τ d;generalize({w with tape:=τ,drawn:=d}:World)=wA at bl⊢;have k1:=KG M cap bo sh vN vS vC wA hM (hS.bel bl);simp only[UB,qG,qo,v_,Tryz.f19,aB]
 go_wp2_with(first|(go_at_call 36;(with_reducible refine k1.mono ?_);rintro r w1 ⟨hb1,e',v,hE',rfl,h1,h2⟩))
 obtain rfl:e'=e:=hE.one hE';obtain⟨p,hch⟩:=h2 he;clear h1 h2;replace bl:=bl.trans (rJ.of hb1) bl.size';refine qw rM (rG qM rM ag ac2 λR hR τ d=>?_);replace bl:=bl.tp τ d;replace hch:=Jz τ d hch;generalize({w1 with tape:=τ,drawn:=d}:World)=w2 at bl hch⊢;obtain⟨ty,x,rfl⟩:=hch.iface;simp only[UB,qG,qo,v_,Tryz.f19,aB];go_wp2;refine zA rM (b:=true) ax ?_;simp only[aF];refine qw rM (rG qM rM ag ac2 λR hR τ d=>?_);replace bl:=bl.tp τ d;replace hch:=Jz τ d hch;generalize({w2 with tape:=τ,drawn:=d}:World)=w3 at bl hch⊢;simp only[UB,qG,qo,alS,v_,Tryz.f19,aB]
 go_wp2_with(first|(go_at_call 37;refine(w_ _ 0 _ e' p _ hch).mono ?_;rintro q w4 ⟨v4,rfl,h5,h6⟩))
 refine(FK.2 (ac0 rM Tryz.func19 (y:=.tuple #[.slice none 0 0,v4]) (λτ d=>results_tmp2 (fn:=Tryz.f19) (t:=2) (u:=3) rfl _ _ _) (hnext v4 p w4 h5 (bl.trans (rJ.of h6) bl.size'))))
theorem akz(rM:uo X D)(hT:TA1 (.slice bo M cap) T)(hS:O4 w bo M sh vN vS vC)(hM:M<=1048576)(hE:Dy M sh 0)
  (hnext:∀T' w',TA1 (.slice bo M cap) T'->rJ w.heap.size w w'->sK Tryz.prog X Y D Stop 38 (adw T'::cs) [.code wo] ⟨#[.slice bo M cap]++Array.replicate 75 undef,[]⟩ w'):
  sK Tryz.prog X Y D Stop 19 cs [.code UB] ⟨T,[]⟩ w:=by
 obtain⟨f,rfl⟩:=hT;unfold Ta;rw[ah2];refine qL qM rM ag rfl ac2 λR hR τ d=>?_
 have bl:rJ w.heap.size w {w with tape:=τ,drawn:=d}:=(rJ.refl _ w).tp τ d;generalize({w with tape:=τ,drawn:=d}:World)=wA at bl⊢;have k1:=KG M cap bo sh vN vS vC wA hM (hS.bel bl);simp only[UB,qG,qo,v_,Tryz.f19,aB]
 go_wp2_with(first|(go_at_call 36;(with_reducible refine k1.mono ?_);rintro r w1 ⟨hb1,e',v,hE',rfl,h1,h2⟩;obtain rfl:e'=0:=hE.one hE';obtain rfl:=h1 rfl))
 clear h2 k1;replace bl:=bl.trans (rJ.of hb1) bl.size';rw[akj];refine uH rM rfl (zW rM ?_);rw[af6];simp only[List.range,List.range.loop];refine qm qM rM (.slice bo M cap) ji rfl ag (λz _=>aI) ?_;walk_nrm;refine uZ rM ji rfl ax Tryz.func38 ag (c:=wo) ag (vs:=#[.slice bo M cap]) (n:=75) fC ag ?_;unfold adw at hnext;exact hnext _ _ ⟨_,aaw rfl⟩ bl
theorem aaJ(rM:uo X D)(hT:TA1 (.slice bo M cap) T){vd ve:Value}
  (hnext:∀T',TA2 (.slice bo M cap) vd ve T'->qR Tryz.prog X Y D Stop none [] 19 cs [.code ad6] T' w):
  ∀z,qH X Y z w->ru Tryz.prog D Stop (G ((adw T).finish (.tuple #[vd,ve])) cs) z:=by
 rw[show adw T=Dn none [] 19 T (.inRegion aO5 [1,2,3,4,5,6]::[.code ad6])from rfl];rw[uD ji];show qR _ _ _ _ _ _ _ _ _ _ _ _;obtain⟨g,rfl⟩:=hT;unfold Ta;walk_nrm;refine qm qM rM (.tuple #[vd,ve]) ji rfl ag (λz _=>aI) ?_;walk_nrm;refine qm qM rM vd ji rfl ag (λz _=>aI) ?_;walk_nrm;refine qm qM rM ve ji rfl ag (λz _=>aI) ?_;walk_nrm;refine qm qM rM vd ji rfl ag (λz _=>aI) ?_;walk_nrm;refine qm qM rM ve ji rfl ag (λz _=>aI) ?_;walk_nrm;exact r_ rM (hnext _ ⟨_,aaw rfl⟩)
theorem aiM(rM:uo X D){vd ve:Value}{e p:Nat}(hT:TA2 (.slice bo M cap) vd ve T)(hch:Chain w 0 ve e p)
  (hnext:∀ev w',Chain w' 1 ev e p->rJ w.heap.size w w'->∀z,qH X Y z w'->ru Tryz.prog D Stop (G (fr.finish (.tuple #[.slice none 0 0,ev])) cs) z):
  sK Tryz.prog X Y D Stop 19 (fr::cs) [.code ad6] ⟨T,[]⟩ w:=by
 refine Ha qM rM ag Tryz.func19 (R:=λy w'=>∃ev,y=.tuple #[.slice none 0 0,ev]/\Chain w' 1 ev e p/\rJ w.heap.size w w') (λτ d=>?_) (λy v' ⟨ev,h1,h2,h3⟩=>h1▸hnext ev v' h2 h3);have bl:rJ w.heap.size w {w with tape:=τ,drawn:=d}:=(rJ.refl _ w).tp τ d;replace hch:=Jz τ d hch;generalize({w with tape:=τ,drawn:=d}:World)=wA at bl hch⊢;obtain⟨f,rfl⟩:=hT;unfold Ta
 conv in ad6=>simp only[ad6,ad5,UB,v_,qo,Tryz.f19,aB]
 obtain⟨ty,x,rfl⟩:=hch.iface
 go_wp2_with(first|(go_at_call 37;refine(w_ _ 0 _ e p _ hch).mono ?_;rintro q w4 ⟨v4,rfl,h5,h6⟩))
 go_ret2;exact⟨_,rfl,v4,rfl,h5,bl.trans (rJ.of h6) bl.size'⟩
theorem aiL(rM:uo X D){vd:Value}{l:List UInt8}(hT:TA2 (.slice bo M cap) vd .nilIface T)(hS:O4 w bo M sh vN vS vC)(hM:0<M)(hD:Lies w vd (rF l))(hV:Jy vd l.length)(hln:(sh 0).names.length=(sh 0).sizes.length)(hsum:(sh 0).sizes.sum=l.length)(hl:l.length<=1048576)
  (hnext:∀g vb w',CB (sh 0).names (sh 0).sizes l g (sh 0).names.length vb w'->rJ w.heap.size w w'->w.heap.size<=g->∀z,qH X Y z w'->ru Tryz.prog D Stop (G (fr.finish (.tuple #[.slice (some ⟨g,0,none⟩) (sh 0).names.length (sh 0).names.length,.nilIface])) cs) z):
  sK Tryz.prog X Y D Stop 19 (fr::cs) [.code ad6] ⟨T,[]⟩ w:=by
 refine Ha qM rM ag Tryz.func19 (R:=λy w'=>∃g vb,y=.tuple #[.slice (some ⟨g,0,none⟩) (sh 0).names.length (sh 0).names.length,.nilIface]/\CB (sh 0).names (sh 0).sizes l g (sh 0).names.length vb w'/\rJ w.heap.size w w'/\w.heap.size<=g) (λτ d=>?_) (λy v' ⟨g,vb,h1,h2,h3,h4⟩=>h1▸hnext g vb v' h2 h3 h4);have bl:rJ w.heap.size w {w with tape:=τ,drawn:=d}:=(rJ.refl _ w).tp τ d;generalize({w with tape:=τ,drawn:=d}:World)=wA at bl⊢;obtain⟨f,rfl⟩:=hT;unfold Ta;have Hr:=hS.bel bl;have h0n:(0:Int)<(M:Int):=ae;obtain⟨b,o,rfl,hbl,hcell⟩:=Hr.cells hM;have r0:=hcell 0 hM;unfold QY at r0;obtain⟨q0,q1,q2,q3,q4,q5,q6⟩:=LJ r0;simp only[fF,fG]at q4 q5;have k1:=af8 (sh 0).names (sh 0).sizes l (vN 0) (vS 0) vd wA.drew (Lies.drewN (Hr.nm 0 hM).1 1) (Lies.drewN (Hr.sz 0 hM).1 1) (Lies.drewN (JJ bl hD) 1) hV ae hsum (Hr.nm 0 hM).2 hl
 conv in ad6=>simp only[ad6,ad5,UB,v_,qo,Tryz.f19,aB]
 clear q0 q1 q2 q3 q6 r0 hcell hln hsum
 go_wp2_with fail
 have QZ:rJ w.heap.size w wA.drew:=bl.trans (rJ.of (aA _ _).drew) bl.size'
 go_region_with (first|(go_at_call 39;(with_reducible refine k1.mono ?_);rintro r w2 ⟨hb2,vb,rfl,hCB⟩))
 all_goals
  go_wp2;go_ret2;exact⟨_,rfl,_,vb,rfl,hCB,QZ.trans (rJ.of hb2) QZ.size',QZ.size'⟩
end
end Go.Proofs.Y
namespace Go.Proofs.Y
def Ib:St->List (List UInt8)->Option St
 |s,[]=>some s
 |s,t::ts=>if t.length=s.sz/\s.nx≠4 then match ui s t with
  | .ok s'=>Ib (rQ s' t) ts
  | .error _=>none
  else none
theorem af9{Z t u:List UInt8}{a:Nat}(h:At Z a (t++u)):At Z a t/\At Z (a+t.length) u:=by
 have h1:=h.1;rw[aQ]at h1;refine⟨⟨ae,λi hi=>?_⟩,⟨ae,λi hi=>?_⟩⟩
 .rw[h.2 i az];simp only[sH,aO];rw[eY hi]
 .rw[dB,h.2 (t.length+i) az];simp only[sH,aO];rw[iO ae,gX]
theorem YJ(x t y:List UInt8):At (x++t++y) x.length t:=by refine⟨ai,λi hi=>?_⟩;simp only[sH,aO];rw[eY az,iO ae,gX]
theorem Yj:∀(ts:List (List UInt8))(s s':St)(Z:List UInt8),Good s Z->At Z s.pl ts.flatten->Ib s ts=some s'->Good s' Z/\s'.pl=s.pl+ts.flatten.length
 |[],s,s',Z,hG,_,h=>by cases h;exact⟨hG,rfl⟩
 |t::ts,s,s',Z,hG,hA,h=>by
  unfold Ib at h;split at h
  .rename_i hc;cases hr:ui s t with
   |error e=>rw[hr]at h;cases h
   |ok s1=>
    rw[hr]at h;rw[jf]at hA;obtain⟨h1,h2⟩:=af9 hA;obtain⟨_,g1,g2,_⟩:=abp hG hc.2 h1 ae hr;have hp:(rQ s1 t).pl=s.pl+t.length:=by show s1.pl+t.length=_;rw[g2]
    obtain⟨g3,g4⟩:=Yj ts _ s' Z g1 (by rw[hp];exact h2) h;refine⟨g3,?_⟩;rw[g4,hp,jf,aQ];omega
  .cases h
def St0:St:=⟨0,0,0,0,[],[],[],0,0,0,0,0⟩
theorem abB{ts:List (List UInt8)}{s:St}(h:Ib St0 ts=some s)(h4:s.nx=4)(x:List UInt8):qP (ts.flatten++x)=if x=[]then .ok s.shd else .error (9,ts.flatten.length):=by
 obtain⟨g1,g2⟩:=Yj ts St0 s (ts.flatten++x) (.head rfl rfl rfl) (YJ [] ts.flatten x) h;have g2':s.pl=ts.flatten.length:=by rw[g2];exact aS _
 rw[Ya g1 h4,g2'];by_cases hx:x=[]
 .rw[aj hx,aj (by rw[hx];simp)]
 .have:0<x.length:=kC.2 hx;rw[ah hx,ah az]
