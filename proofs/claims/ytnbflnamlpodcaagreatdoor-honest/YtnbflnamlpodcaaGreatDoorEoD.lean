import Derived.Test.YtnbflnamlpodcaaGreatDoorDeD
import Derived.Test.YtnbflnamlpodcaaGreatDoorGlA
set_option maxHeartbeats 8000000
set_option maxRecDepth 100000
namespace Go.Proofs.Y
open Go.Proofs.Tryz
open Go.RowKit Go.Deep Go.Lf Go.Conc Go.Hp
noncomputable def yu:Code:=Tryz.f38.body.getD .skip
noncomputable def do8:Code:=qA (qA (qA (qA yu)))
noncomputable def do9:Code:=qA do8
noncomputable def adK:Code:=qA do9
theorem agJ:yu=.seq (qM yu) (.seq (qM (qA yu)) (.seq (qM (qA (qA yu))) (.seq (qM (qA (qA (qA yu)))) do8))):=aj
noncomputable def qd8:{y:Array Oper//y=uq (qM do8)}:=⟨_,by(simp only[do8,yu,qM,qA,uq,Tryz.f38,aQ];rfl)⟩
noncomputable def dO8:Array Oper:=qd8.1
theorem apl:do8=.seq (.region 8 dO8 false) do9:=aj
theorem ajw:dO8.size=7:=aj
noncomputable def qd9:{y:Array Oper//y=uq (qM do9)}:=⟨_,by(simp only[do9,do8,yu,qM,qA,uq,Tryz.f38,aQ];rfl)⟩
noncomputable def dO9:Array Oper:=qd9.1
theorem apm:do9=.seq (.region 9 dO9 false) adK:=aj
theorem ajx:dO9.size=5:=aj
theorem amB:∃fn,prog.funcs[38]?=some fn:=⟨_,func38⟩
def Td(f:Nat->ai)(a0 a4 a5 a6 a7 a10 a11:ai):aB:=#[a0,f 1,f 2,f 3,a4,a5,a6,a7,f 8,f 9,a10,a11,f 12,f 13,f 14,f 15,f 16,f 17,f 18,f 19,f 20,f 21,f 22,f 23,f 24,f 25,f 26,f 27,f 28,f 29,f 30,f 31,f 32,f 33,f 34,f 35,f 36,f 37,f 38,f 39,f 40,f 41,f 42,f 43,f 44,f 45,f 46,f 47,f 48,f 49,f 50,f 51,f 52,f 53,f 54,f 55,f 56,f 57,f 58,f 59,f 60,f 61,f 62,f 63,f 64,f 65,f 66,f 67,f 68,f 69,f 70,f 71,f 72,f 73,f 74,f 75]
theorem Yq{T:aB}(h:T=#[ae T 0,ae T 1,ae T 2,ae T 3,ae T 4,ae T 5,ae T 6,ae T 7,ae T 8,ae T 9,ae T 10,ae T 11,ae T 12,ae T 13,ae T 14,ae T 15,ae T 16,ae T 17,ae T 18,ae T 19,ae T 20,ae T 21,ae T 22,ae T 23,ae T 24,ae T 25,ae T 26,ae T 27,ae T 28,ae T 29,ae T 30,ae T 31,ae T 32,ae T 33,ae T 34,ae T 35,ae T 36,ae T 37,ae T 38,ae T 39,ae T 40,ae T 41,ae T 42,ae T 43,ae T 44,ae T 45,ae T 46,ae T 47,ae T 48,ae T 49,ae T 50,ae T 51,ae T 52,ae T 53,ae T 54,ae T 55,ae T 56,ae T 57,ae T 58,ae T 59,ae T 60,ae T 61,ae T 62,ae T 63,ae T 64,ae T 65,ae T 66,ae T 67,ae T 68,ae T 69,ae T 70,ae T 71,ae T 72,ae T 73,ae T 74,ae T 75]):T=Td (λi=>T.getD i undef) (ae T 0) (ae T 4) (ae T 5) (ae T 6) (ae T 7) (ae T 10) (ae T 11):=h
def TD1(vs:ai)(K N tt M bc:Nat)(T:aB):Prop:=∃f:Nat->ai,T=Td f vs (.int .i64 (K:Int)) (.int .i64 (N:Int)) (.int .i64 (tt:Int)) (.slice (some ⟨bc,0,none⟩) M M) (f 10) (f 11)
def TD2(vs:ai)(K N tt M bc:Nat)(vd:ai)(T:aB):Prop:=∃f:Nat->ai,T=Td f vs (.int .i64 (K:Int)) (.int .i64 (N:Int)) (.int .i64 (tt:Int)) (.slice (some ⟨bc,0,none⟩) M M) vd (f 11)
def TD3(vs:ai)(K N tt M bc:Nat)(vd va:ai)(T:aB):Prop:=∃f:Nat->ai,T=Td f vs (.int .i64 (K:Int)) (.int .i64 (N:Int)) (.int .i64 (tt:Int)) (.slice (some ⟨bc,0,none⟩) M M) vd va
noncomputable def frD(T:aB):aJ:=(base 38).at ⟨T,[]⟩ (.inRegion dO8 [2,3,4,5,6]::[.code do9])
noncomputable def frF(T:aB):aJ:=(base 38).at ⟨T,[]⟩ (.inRegion dO9 [3,4]::[.code adK])
structure DsH(K N L tt M:Nat)(sh:Nat->xG):Prop where
 k1:1<=K
 kn:K<=N
 n1:N<=128
 kM:K<=M
 hM:M<=128
 sk:(sh 0).k=K
 sn:(sh 0).n=N
 st:(sh 0).sizes.sum=tt
 t1:tt<=65536
 hl:L=ug K tt
 len:∀i,i<M->(sh i).qH.length=L
 ix:∀i,i<M->(sh i).i<N
 inj:∀i j,i<M->j<M->i≠j->(sh i).i≠(sh j).i
def crF(sh:Nat->xG)(vC:Nat->ai)(p:Nat):ai:=if p%2=0 then .int .i64 (((sh (p/2)).i:Nat):Int)else vC (p/2)
def CR(bc M j:Nat)(sh:Nat->xG)(vC:Nat->ai)(w:ah):Prop:=w.rowIs bc 143 (M*2) (λp=>if p/2<j then crF sh vC p else(if p%2=0 then .int .i64 0 else .slice none 0 0))
theorem CR.start(M:Nat)(sh:Nat->xG)(vC:Nat->ai)(w:ah):CR w.heap.size M 0 sh vC (w.alloc (.cells (madeCells #[.int .i64 0,.slice none 0 0] (M*2)) 143)):=by
 have:=World.rowIs_alloc w (madeCells #[.int .i64 0,.slice none 0 0] (M*2)) 143 (λp=>if p/2<0 then crF sh vC p else(if p%2=0 then .int .i64 0 else .slice none 0 0)) (λi hi=>by rw[iO]at hi;rw[au ag];rcases aw2 i with e|e<;>simp[madeCells,hi,e])
 rw[iO]at this;exact this
theorem CR.more{bc M j:Nat}{sh:Nat->xG}{vC:Nat->ai}{w w2:ah}(h:CR bc M j sh vC w)(hj:j<M)(hg:bc<w.heap.size)(hb:Below w.heap.size w w2):
  CR bc M (j+1) sh vC ((w2.setCell ⟨bc,j*2,none⟩ (.int .i64 (((sh j).i:Nat):Int))).setCell ⟨bc,j*2+1,none⟩ (vC j))/\(∃u,w2.cell? ⟨bc,j*2,none⟩=some u)/\w2.frozen? ⟨bc,j*2,none⟩=false/\(∃u,(w2.setCell ⟨bc,j*2,none⟩ (.int .i64 (((sh j).i:Nat):Int))).cell? ⟨bc,j*2+1,none⟩=some u)/\(w2.setCell ⟨bc,j*2,none⟩ (.int .i64 (((sh j).i:Nat):Int))).frozen? ⟨bc,j*2+1,none⟩=false:=by
 have r:w2.rowIs bc _ _ _:=World.rowIs.of_block h (hb.block bc hg);have r1:=r.set (j*2) (.int .i64 (((sh j).i:Nat):Int));have r2:=r1.set (j*2+1) (vC j);refine⟨r2.congr λp hp=>?_,⟨_,r.cell (i:=j*2) ag⟩,r.frozen _,⟨_,r1.cell (i:=j*2+1) ag⟩,r1.frozen _⟩;by_cases e1:p=j*2+1
 .subst e1;rw[ay rfl,ay ag,crF,au ag,show(j*2+1)/2=j by omega]
 .rw[au e1];by_cases e2:p=j*2
  .subst e2;rw[ay rfl,ay ag,crF,ay ag,show j*2/2=j by omega]
  .rw[au e2];by_cases e3:p/2<j
   .simp only[e3,show p/2<j+1 by omega,aX]
   .simp only[e3,show¬p/2<j+1 by omega,bQ]
theorem ajy(l:aA):Gf (l.map Int.ofNat)=zV l:=by simp[Gf,zV]
theorem Um(l:aA):Fv (l.map Int.ofNat)=l.sum:=by unfold Fv;rw[jV,show(Int.toNat∘Int.ofNat)=id from rfl,List.map_id]
theorem O3{w w':ah}{v:ai}{xs:aK}(hb:sH w.heap.size w w')(h:qU w v xs):qU w' v xs:=qU.below (w:={w with tape:=w'.tape}) h hb
theorem Vj.AO{w w':ah}{bo:aY}{n:Nat}{sh:Nat->xG}{vN vS vC:Nat->ai}(h:Vj w bo n sh vN vS vC)(hb:sH w.heap.size w w'):Vj w' bo n sh vN vS vC:=
 ⟨λhn=>by
  obtain⟨b,o,e,hl,hc⟩:=h.cells hn;exact⟨b,o,e,bG hl hb.sN,λi hi j v hv=>(Below.cell (p:=(⟨b,o+i*7+j,none⟩:Addr)) hb hl).trans (hc i hi j v hv)⟩,
  λi hi=>⟨(O3 hb (h.nm i hi).1),(h.nm i hi).2⟩,λi hi=>⟨(O3 hb (h.sz i hi).1),(h.sz i hi).2⟩,λi hi=>O3 hb (h.cl i hi),h.kn⟩
section
variable {X:Nat->Prop}{Y:Nat->aV}{D:Nat->ah->aH->Prop}{Stop:aG->ah->Prop}{w:ah}{cs:aP}{K N L tt M cap:Nat}{bo:aY}{sh:Nat->xG}{vN vS vC:Nat->ai}
theorem apn(rM:uU X D)(hH:DsH K N L tt M sh)(hS:Vj w bo M sh vN vS vC)
  (qJ:∀(T:aB)(bc:Nat)(w':ah),TD1 (.slice bo M cap) K N tt M bc T->CR bc M M sh vC w'->sH w.heap.size w w'->w.heap.size<=bc->
   uA prog X Y D Stop 38 cs [.code do8] ⟨T,[]⟩ w'):
  uA prog X Y D Stop 38 cs [.code yu] ⟨#[.slice bo M cap]++Array.replicate 75 undef,[]⟩ w:=by
 obtain⟨k1,kn,n1,kM,hM,sk,sn,st,t1,hl,len,hix,inj⟩:=hH;rw[agJ];simp only[dR,dQ,dM,dP,dA,bT];refine rf qP rM aj rfl amB λR hR τ d'=>?_
 have bl:sH w.heap.size w {w with tape:=τ,drawn:=d'}:=(sH.refl _ w).tp τ d';generalize({w with tape:=τ,drawn:=d'}:ah)=wA at bl⊢;simp only[qM,yu,Tryz.f38,aQ];go_wp2;refine rf qP rM aj rfl amB λR hR τ d'=>?_
 replace bl:=bl.tp τ d';generalize({wA with tape:=τ,drawn:=d'}:ah)=wB at bl⊢;simp only[qM,qA,yu,Tryz.f38,aQ];have Hr:=hS.AO bl;have h0n:(0:Int)<(M:Int):=ag;obtain⟨b,o,rfl,L_,hcell⟩:=Hr.cells ag;have r0:=hcell 0 ag;unfold WQ at r0;obtain⟨q0,q1,q2,q3,q4,q5,q6⟩:=QL r0;simp only[gX,gy]at q0 q1 q2 q3 q4 q5 q6;have kt:=λm=>adE (vS 0) ((sh 0).sizes.map Int.ofNat) (by have:=(Hr.sz 0 ag).2;simp;omega) (λi hi=>by simp;cases (sh 0).sizes[i]?<;>simp) (by rw[Um,st];exact t1) (wB.drewN m) (by rw[ajy];exact((Hr.sz 0 ag).1.drewN m))
 rw[Um,st]at kt;rw[sk]at q0;rw[sn]at q1;have kT:∀nq,Calls prog 65 #[vS 0] (wB.drewN nq) λr w'=>r=.returned (.int .i64 (tt:Int))/\w'=wB.drewN nq:=kt
 clear kt q2 q3 q4 q6 r0 hcell
 go_quiet ((go_at_call 65;exact Calls.quiet_of_same (kT _)))
 clear kT q0 q1 q5;go_wp2;refine rf qP rM aj rfl amB λR hR τ d'=>?_
 have WO:sH w.heap.size w ({wB.drewN nq with tape:=τ,drawn:=d'}:ah):=sH.tp (bl.trans (sH.of (below_drewN (aT _ _) nq)) bl.sN) τ d';generalize({wB.drewN nq with tape:=τ,drawn:=d'}:ah)=wC at WO⊢;simp only[qM,qA,yu,Tryz.f38,aQ];have mk:=X8 M hM wC;have C0:=CR.start M sh vC wC;have b0:Below wC.heap.size wC (wC.alloc (.cells (madeCells #[.int .i64 0,.slice none 0 0] (M*2)) 143)):=(aT _ _).alloc (az _) _;go_wp2;clear mk;have bl3:sH w.heap.size w (wC.alloc (.cells (madeCells #[.int .i64 0,.slice none 0 0] (M*2)) 143)):=WO.trans (sH.of b0) WO.sN;have qK:wC.heap.size<(wC.alloc (.cells (madeCells #[.int .i64 0,.slice none 0 0] (M*2)) 143)).heap.size:=ax;have hwb:=WO.sN;generalize wC.alloc (.cells (madeCells #[.int .i64 0,.slice none 0 0] (M*2)) 143)=wD at C0 bl3 qK⊢;generalize wC.heap.size=bc at*;clear b0 WO bl L_ Hr;refine rf qP rM aj rfl amB λR hR τ d'=>?_
 replace bl3:=bl3.tp τ d';replace C0:CR bc M 0 sh vC ({wD with tape:=τ,drawn:=d'}:ah):=C0;replace qK:bc<({wD with tape:=τ,drawn:=d'}:ah).heap.size:=qK;generalize({wD with tape:=τ,drawn:=d'}:ah)=wE at bl3 C0 qK⊢;have Hs:=hS.AO bl3;obtain⟨b',o',e',L_,hcell⟩:=Hs.cells ag;cases e';simp only[qM,qA,yu,Tryz.f38,aQ];go_wp2
 go_loopw [8,9,32] (λ_ _ vi wr=>∃j:Nat,j<=M/\vi=.int .i64 (j:Int)/\sH w.heap.size w wr/\CR bc M j sh vC wr/\bc<wr.heap.size) (λ_ _ vi _=>M-(intOf vi).toNat)
 case atStart=>exact⟨0,ag,rfl,bl3,C0,qK⟩
 case round=>
  clear C0 qK bl3 hcell L_ Hs;obtain⟨j,hj,rfl,blr,Cj,qK⟩:=hrel;by_cases hjm:j<M
  .have auS:(j:Int)<(M:Int):=ag;have Hr:=hS.AO blr;obtain⟨b',o',e',L_,hcell⟩:=Hr.cells ag;cases e';have rj:=hcell j hjm;have tN:=yB _ (Hr.nm j hjm).1.one;have tS:=yB _ (Hr.sz j hjm).1.one;have tC:=yB _ (Hr.cl j hjm).one;unfold WQ at rj;obtain⟨p0,p1,p2,p3,p4,p5,p6⟩:=QL rj;obtain⟨C2,⟨u1,d1⟩,d2,-,-⟩:=Cj.more hjm qK (aT _ _);have d3:=World.rowIs.cell Cj (i:=j*2+1) ag;have d4:=World.rowIs.frozen Cj (j*2+1);have cn:=Ew wr (WQ (sh j) (vN j) (vS j) (vC j)) 55;have c2:=cn 2;have c6:=cn 6;simp only[WQ,jB,jD]at c2 c6;obtain⟨bq,cq,ev⟩:=(Hr.cl j hjm).len;clear cn rj hcell Cj Hr;generalize hvj:vC j=vj at*;subst ev;generalize(sJ (sh j).qH).length=nq' at*;have b3:sH w.heap.size w ((wr.setCell ⟨bc,j*2,none⟩ (.int .i64 (((sh j).i:Nat):Int))).setCell ⟨bc,j*2+1,none⟩ (.slice bq nq' cq)):=(Below.setCell (Below.setCell blr (p:=⟨bc,j*2,none⟩) hwb _) (p:=⟨bc,j*2+1,none⟩) hwb _);have wH:bc<((wr.setCell ⟨bc,j*2,none⟩ (.int .i64 (((sh j).i:Nat):Int))).setCell ⟨bc,j*2+1,none⟩ (.slice bq nq' cq)).heap.size:=by simp;exact qK
   go_wp2;generalize(wr.setCell ⟨bc,j*2,none⟩ (.int .i64 (((sh j).i:Nat):Int))).setCell ⟨bc,j*2+1,none⟩ (.slice bq nq' cq)=w3 at*;have b4:∀o:Obj,Below w3.heap.size w3 (w3.alloc o):=λo=>(aT _ _).alloc (az _) o
   exact⟨⟨j+1,ag,ax,b3.trans (sH.of (b4 _)) b3.sN,World.rowIs.of_block C2 ((b4 _).block bc wH),bG wH (b4 _).size⟩,gG⟩
  .obtain rfl:j=M:=ag;have Hg:¬((j:Int)<(j:Int)):=ag;go_wp2;exact qJ _ bc wr ⟨_,Yq rfl⟩ Cj blr hwb
end
section
variable {X:Nat->Prop}{Y:Nat->aV}{D:Nat->ah->aH->Prop}{Stop:aG->ah->Prop}{w:ah}{cs:aP}{K N L tt M bc:Nat}{vs:ai}{T:aB}
theorem amC(rM:uU X D)(hT:TD1 vs K N tt M bc T)
  (qJ:∀T',TD1 vs K N tt M bc T'->uA prog X Y D Stop 67 (frD T'::cs) [.code JD] ⟨#[.int .i64 (K:Int),.slice (some ⟨bc,0,none⟩) M M]++Array.replicate 67 undef,[]⟩ w):
  uA prog X Y D Stop 38 cs [.code do8] ⟨T,[]⟩ w:=by
 obtain⟨g,rfl⟩:=hT;unfold Td;rw[apl];refine xM rM rfl (FK rM ?_);rw[ajw];simp only[List.range,List.range.loop];refine qC qP rM (.int .i64 (K:Int)) iV rfl aj (λz _=>a_) ?_;walk_nrm;refine qC qP rM (.slice (some ⟨bc,0,none⟩) M M) iV rfl aj (λz _=>a_) ?_;walk_nrm;refine wo rM iV rfl aI func67 aj (c:=JD) aj (vs:=#[.int .i64 (K:Int),.slice (some ⟨bc,0,none⟩) M M]) (n:=67) gI aj ?_;unfold frD at qJ;exact qJ _ ⟨_,Yq rfl⟩
theorem afq(rM:uU X D){vd:ai}(hT:TD2 vs K N tt M bc vd T)
  (qJ:∀T',TD2 vs K N tt M bc vd T'->uA prog X Y D Stop 29 (frF T'::cs) [.code zD] ⟨#[.int .i64 ((K:Nat):Int),.int .i64 ((N:Nat):Int),vd]++Array.replicate 23 undef,[]⟩ w):
  rC prog X Y D Stop none [] 38 cs [.code do9] T w:=by
 obtain⟨g,rfl⟩:=hT;unfold Td;rw[apm];refine qy rM (xH rM ?_);rw[ajx];simp only[List.range,List.range.loop];refine qC qP rM (.int .i64 (K:Int)) mJ rfl aj (λz _=>a_) ?_;walk_nrm;refine qC qP rM (.int .i64 (N:Int)) mJ rfl aj (λz _=>a_) ?_;walk_nrm;refine qC qP rM vd mJ rfl aj (λz _=>a_) ?_;walk_nrm;refine wo rM mJ rfl aI func29 aj (c:=zD) aj (vs:=#[.int .i64 (K:Int),.int .i64 (N:Int),vd]) (n:=23) gI aj ?_;unfold frF at qJ;exact qJ _ ⟨_,Yq rfl⟩
theorem apo(rM:uU X D)(hT:TD1 vs K N tt M bc T){C:Nat}{dN:Nat->Nat}{ls:List (ak)}(hP:apq w C K L dN ls)(hK:0<K/\K<=128)(hL:L<=65536)(ht:tt<=ls.flatten.length)
  (qJ:∀T' vd w',TD2 vs K N tt M bc vd T'->qU w' vd (sJ (ls.flatten.take tt))->Oz vd tt->sH w.heap.size w w'->uA prog X Y D Stop 29 (frF T'::cs) [.code zD] ⟨#[.int .i64 ((K:Nat):Int),.int .i64 ((N:Nat):Int),vd]++Array.replicate 23 undef,[]⟩ w'):
  ∀z,qQ X Y z w->r_ prog D Stop (G ((frD T).finish (.slice (some ⟨C,0,none⟩) K K)) cs) z:=by
 rw[show frD T=Dn none [] 38 T (.inRegion dO8 [2,3,4,5,6]::[.code do9])from rfl];rw[vM iV];show rC _ _ _ _ _ _ _ _ _ _ _ _;obtain⟨g,rfl⟩:=hT;unfold Td;walk_nrm;refine Jl.2 ?_;refine NH qP rM (qP.body (f:=66) aj aj) (R:=λv w'=>qU w' v (sJ ls.flatten)/\Oz v ls.flatten.length/\sH w.heap.size w w') iV rfl aI (vs:=#[.slice (some ⟨C,0,none⟩) K K,.slice none 0 0]) gI (aw3 aj) (λτ d=>?_) ?_
 .refine(agK (w:={w with tape:=τ,drawn:=d}) (C:=C) (K:=K) (L:=L) (dN:=dN) (ls:=ls) ⟨hP.len,hP.each,hP.at0,hP.byte⟩ hK hL).mono ?_;rintro r w' ⟨v,rfl,h1,h2,h3⟩;exact⟨v,rfl,h1,h2,((sH.refl _ w).tp τ d).trans (sH.of h3) (az _)⟩
 intro vj w1 ⟨hLj,hDj,L_⟩;refine Jl.1 ?_;walk_nrm;generalize ls.flatten=lj at*;rcases hDj with⟨rfl,h0⟩|⟨b,off,cj,rfl,hc⟩
 .obtain rfl:tt=0:=ag;refine qC qP rM (.int .i64 ((0:Nat):Int)) iV rfl aj (λz _=>a_) ?_;walk_nrm;refine qC qP rM (.slice none 0 0) iV rfl aj (λz _=>a_) ?_;walk_nrm;refine qC qP rM (.slice none 0 0) iV rfl aj (λz _=>a_) ?_;walk_nrm;refine tY rM (afq rM ⟨_,Yq rfl⟩ λT' XT=>qJ T' _ w1 XT ?_ (.inl ⟨rfl,rfl⟩) L_);exact⟨none,0,eX,eX,λj u hj=>oh⟩
 .have h1:((tt:Nat):Int)<=((cj:Nat):Int):=ag;have h2:((tt:Nat):Int)<=((lj.length:Nat):Int):=ag
  have hLd:qU w1 (.slice (some ⟨b,off,none⟩) tt cj) (sJ (lj.take tt)):=by have:=Yr hLj (s:=0) (t:=tt) ag cj ag;exact ayh
  refine qC qP rM (.int .i64 ((tt:Nat):Int)) iV rfl aj (λz _=>a_) ?_;walk_nrm;refine qC qP rM (.slice (some ⟨b,off,none⟩) tt cj) iV rfl aj (λz _=>a_) ?_;walk_nrm;refine qC qP rM (.slice (some ⟨b,off,none⟩) tt cj) iV rfl aj (λz _=>a_) ?_;walk_nrm;exact tY rM (afq rM ⟨_,Yq rfl⟩ λT' XT=>qJ T' _ w1 XT hLd (.inr ⟨b,off,cj,rfl,ag⟩) L_)
theorem apr(rM:uU X D){vd va:ai}(hT:TD2 vs K N tt M bc vd T)
  (qJ:∀T',TD3 vs K N tt M bc vd va T'->rC prog X Y D Stop none [] 38 cs [.code adK] T' w):
  ∀z,qQ X Y z w->r_ prog D Stop (G ((frF T).finish va) cs) z:=by
 rw[show frF T=Dn none [] 38 T (.inRegion dO9 [3,4]::[.code adK])from rfl];rw[vM mJ];show rC _ _ _ _ _ _ _ _ _ _ _ _;obtain⟨g,rfl⟩:=hT;unfold Td;walk_nrm;refine qC qP rM va mJ rfl aj (λz _=>a_) ?_;walk_nrm;exact tY rM (qJ _ ⟨_,Yq rfl⟩)
end
def DoR(M:Nat)(sh:Nat->xG)(again:Nat->ak)(vd:ai)(w:ah)(y:ai)(w':ah):Prop:=
 sH w.heap.size w w'/\((y=.tuple #[vd,.nilIface]/\∀t,t<M->(sh t).qH=again (sh t).i)\/∃e p,y=.tuple #[.slice none 0 0,e]/\sV w' 0 e 13 p/\¬∀t,t<M->(sh t).qH=again (sh t).i)
section
variable {X:Nat->Prop}{Y:Nat->aV}{D:Nat->ah->aH->Prop}{Stop:aG->ah->Prop}{w:ah}{cs:aP}{K N L tt M bc C:Nat}{vs vd:ai}{T:aB}{sh:Nat->xG}{vC va:Nat->ai}{again:Nat->ak}
theorem amD(rM:uU X D)(hT:TD3 vs K N tt M bc vd (.slice (some ⟨C,0,none⟩) N N) T)(hM:M<=128)(hC:CR bc M M sh vC w)(Md:∀i,i<M->qU w (vC i) (sJ (sh i).qH))(hix:∀i,i<M->(sh i).i<N)
  (hag:∀i,i<N->w.cell? ⟨C,i,none⟩=some (va i)/\qU w (va i) (sJ (again i))) {c0:aJ}
  (hK:∀y v',DoR M sh again vd w y v'->∀w',qQ X Y w' v'->r_ prog D Stop (G (c0.finish y) cs) w'):
  uA prog X Y D Stop 38 (c0::cs) [.code adK] ⟨T,[]⟩ w:=by
 refine Lc qP rM aj func38 (λτ d=>?_) hK;have bl:sH w.heap.size w {w with tape:=τ,drawn:=d}:=(sH.refl _ w).tp τ d;generalize({w with tape:=τ,drawn:=d}:ah)=wA at bl⊢;obtain⟨g,rfl⟩:=hT;unfold Td
 conv in adK=>simp only[adK,do9,do8,yu,qA,Tryz.f38,aQ]
 go_wp2
 go_loopw [12,13,58] (λ_ _ vi wr=>∃j:Nat,j<=M/\vi=.int .i64 (j:Int)/\sH w.heap.size w wr/\∀t,t<j->(sh t).qH=again (sh t).i) (λ_ _ vi _=>M-(intOf vi).toNat)
 case atStart=>exact⟨0,ag,rfl,bl,λt ht=>absurd ht ag⟩
 case round=>
  clear bl;obtain⟨j,hj,rfl,blr,w_⟩:=hrel;by_cases qK:j<M
  .have Am:(j:Int)<(M:Int):=ag;have hxN:=hix j qK;have auT:(((sh j).i:Nat):Int)<(N:Int):=ag;have r0:w.rowIs bc _ _ _:=hC;have p0:=r0.cell (i:=j*2) ag;have p1:=r0.cell (i:=j*2+1) ag;simp only[show j*2/2=j by omega,show(j*2+1)/2=j by omega,qK,aX,crF,show j*2%2=0 by omega,show¬(j*2+1)%2=0 by omega,bQ]at p0 p1;obtain⟨ga,gl⟩:=hag _ hxN;have hs:=tq blr;have L1:=hs.lies (Md j qK);have L2:=hs.lies gl;replace p0:=hs.cell p0;replace p1:=hs.cell p1;replace ga:=hs.cell ga;have lb:=rG p0;have lC:=rG ga;simp only at lb lC;obtain⟨bq,cq,ev⟩:=L1.len;obtain⟨bz,cz,ez⟩:=L2.len;have cn:=Ew wr [.int .i64 (((sh j).i:Nat):Int),vC j] 143;have c0:=cn 0;have c1:=cn 1;simp only[jB,jD]at c0 c1;have b1:∀o:Obj,Below wr.heap.size wr (wr.alloc o):=λo=>(aT _ _).alloc (az _) o
   have ga1:∀o:Obj,(wr.alloc o).cell? ⟨C,(sh j).i,none⟩=some (va (sh j).i):=λo=>((b1 o).cell (p:=⟨C,(sh j).i,none⟩) lC).trans ga
   have kE:∀(o:Obj)(nq:Nat),Calls prog 68 #[vC j,va (sh j).i] ((wr.alloc o).drewN nq) λr w'=>r=.returned (.bool ((sh j).qH==again (sh j).i))/\w'=(wr.alloc o).drewN nq:=λo nq=>abB _ _ _ _ _ ((L1.below (b1 o)).drewN nq) ((L2.below (b1 o)).drewN nq)
   have bE:∀(o:Obj)(nq:Nat),sH w.heap.size w ((wr.alloc o).drewN nq):=λo nq=>blr.trans (sH.of (below_drewN (b1 o) nq)) blr.sN
   clear cn L1 L2 gl hs r0;generalize hvj:vC j=vj at*;generalize hva:va (sh j).i=vz at*;subst ev ez
   go_wp2_with fail
   replace ga1:=ga1 (.cells #[.int .i64 (((sh j).i:Nat):Int),.slice bq (sJ (sh j).qH).length cq] 143);replace kE:=kE (.cells #[.int .i64 (((sh j).i:Nat):Int),.slice bq (sJ (sh j).qH).length cq] 143);replace bE:=bE (.cells #[.int .i64 (((sh j).i:Nat):Int),.slice bq (sJ (sh j).qH).length cq] 143);generalize wr.alloc (.cells #[.int .i64 (((sh j).i:Nat):Int),.slice bq (sJ (sh j).qH).length cq] 143)=w1 at*;clear p0 p1 ga blr b1 lb lC;generalize wr.heap.size=pp at*;rcases he:((sh j).qH==again (sh j).i)with _|_
   .rw[he]at kE
    go_quiet ((go_at_call 68;exact Calls.quiet_of_same (kE _)))
    replace bE:=bE nq;generalize w1.drewN nq=w2 at bE⊢
    go_wp2_with(first|(go_at_call 64;refine(A8 _ _ 13 j aI ax _).mono ?_;rintro q w3 ⟨v,rfl,h1,h2⟩))
    go_ret2;exact⟨_,rfl,bE.trans (sH.of h2) bE.sN,.inr ⟨v,j,rfl,h1,λhh=>by rw[hh j qK]at he;simp at he⟩⟩
   .rw[he]at kE
    go_quiet ((go_at_call 68;exact Calls.quiet_of_same (kE _)))
    replace bE:=bE nq;generalize w1.drewN nq=w2 at bE⊢;go_wp2;refine⟨⟨j+1,ag,ax,bE,λt ht=>?_⟩,gG⟩;rcases bJ t j with h|h
    .exact w_ t h
    .obtain rfl:t=j:=ag;simpa using he
  .obtain rfl:j=M:=ag;have Hg:¬((j:Int)<(j:Int)):=ag;go_wp2;go_ret2;exact⟨_,rfl,blr,.inl ⟨rfl,w_⟩⟩
end
end Go.Proofs.Y
namespace Go.Proofs.Y
open Go.Proofs.Tryz
open Go.RowKit Go.Deep
theorem aps{k:Nat}{M A B:Nat->Nat->F}(hg:F.Gj k M k A B){x y:Nat->F}(h:∀i,i<k->F.dot k (M i) x=y i)(i:Nat)(hi:i<k):F.dot k (B i) y=x i:=by have:=(hg.same x y).2 h i hi;rw[F.zB hi λj hj=>by rw[hg.left i j hi hj]]at this;exact this.symm
theorem ajz{r x:Nat->Nat}(hr:∀j,r j<256)(hx:∀j,x j<256):∀n,(F.sum (List.range n) λj=>F.mu (Fin.ofNat 256 (r j)) (Fin.ofNat 256 (x j))).val=OG r x n
 |0=>rfl
 |n+1=>by rw[abC];show(F.sum (List.range n) λj=>F.mu (Fin.ofNat 256 (r j)) (Fin.ofNat 256 (x j))).val^^^mul (r n%256) (x n%256)=_;rw[ajz hr hx n,cu (hr n),cu (hx n)];rfl
theorem ajA(l:ak)(L j m:Nat):xAt l L j m<256:=(l.getD (j*L+m) 0).toNat_lt
theorem amE{K L m:Nat}{ix σ:Nat->Nat}{B:Nat->Nat->F}{yv:Nat->Nat->Nat}{l:ak}(vY:NF K ix σ)(hg:∃A,F.Gj K (mF K λs=>ix (σ s)) K A B)(h:∀i,i<K->yv i m=OG (uB K (ix i)) (λj=>xAt l L j m) K){t:Nat}(ht:t<K):(xF K B yv σ t m).val=xAt l L t m:=by
 obtain⟨A,hg⟩:=hg;unfold xF;rw[aps hg (x:=λj=>Fin.ofNat 256 (xAt l L j m)) (λs hs=>?_) t ht]
 .exact cu (ajA l L t m)
 .refine fV ?_;refine(ajz (r:=uB K (ix (σ s))) (λ_=>D7) (λj=>ajA l L j m) K).trans ?_;show _=yv (σ s) m%256;rw[h _ (vY.lt s hs),cu (Ul (λ_=>D7) K)]
def DF(K L:Nat)(x:Nat->Nat->Nat):List (ak):=(List.range K).map λt=>(List.range L).map λm=>UInt8.ofNat (x t m)
theorem adL{K L:Nat}{x:Nat->Nat->Nat}:∀l∈DF K L x,l.length=L:=λl hl=>by obtain⟨t,_,rfl⟩:=gz.1 hl;simp
theorem NM(L:Nat)(x:Nat->Nat->Nat):∀K,(DF K L x).flatten.length=K*L
 |0=>by simp[DF]
 |K+1=>by have:=NM L x K;simp only[DF]at this⊢;rw[dZ,jh,avY,bK,this];simp[gQ]
theorem Vk{L:Nat}(x:Nat->Nat->Nat):∀K i,i<K*L->(DF K L x).flatten[i]?=some (UInt8.ofNat (x (i/L) (i%L)))
 |0,i,h=>by simp at h
 |K+1,i,h=>by
  have hl:=NM L x K;have hi:=Vk (L:=L) x K i;simp only[DF]at hl hi⊢;rw[dZ,jh,avY];rcases bJ i (K*L)with h1|h1
  .rw[gV (by rw[hl];exact h1)];exact hi h1
  .rw[jE (by rw[hl];exact h1),hl];rw[gQ]at h;have e1:i/L=K:=aw4 h1 (by rw[gQ];exact h)
   have e2:i%L=i-K*L:=by have:=o_ i L;rw[e1,gu]at this;omega
   rw[e1,e2];simp only[gU,jU,jY,List.flatten_nil,d_,dO];rw[nO ag];rfl
theorem amF{k:Nat}(hk:1<=k)(t:Nat):t<=k*ug k t:=by unfold ug;have h1:=o_ (t+k-1) k;have h2:=iR (t+k-1) (show 0<k by omega);omega
theorem adM{K L:Nat}{x:Nat->Nat->Nat}{l:ak}(hl:l.length<=K*L)(h:∀t m,t<K->m<L->x t m=xAt l L t m):(DF K L x).flatten.take l.length=l:=by
 refine jk λi=>?_
 rw[jX];split
 .rename_i hi;have h1:i<K*L:=ag;have hL:0<L:=Nat.pos_of_ne_zero λe=>by subst e;simp at h1
  rw[Vk x K i h1,h _ _ ((avS hL).2 h1) (iR _ hL)];unfold xAt tZ;rw[gu,o_,bH,cO hi];simp
 .rename_i hi;rw[g_ ag]
end Go.Proofs.Y
namespace Go.Proofs.Y
open Go.Proofs.Tryz
open Go.RowKit Go.Deep Go.Lf Go.Conc Go.ConcN Go.Gh Go.Hp
open Go.ConcR (Payload WgAt wgBlock)
theorem DZ{X:Nat->Prop}{Y:Nat->aV}{W W' v v':ah}(hs:qQ X Y W v)(xU:qQ X Y W' v')(hb:sH v.heap.size v v'):KpX X W W':=by obtain⟨τ,d,h⟩:=hs;obtain⟨τ',d',h'⟩:=xU;have e1:W.heap.size=v.heap.size:=h.size;have e2:W'.heap.size=v'.heap.size:=h'.size;have:=hb.sN;exact⟨h'.os.trans (Eq.trans (show v'.os=v.os from hb.os) h.os.symm),h'.out.trans (Eq.trans (show v'.output=v.output from hb.output) h.out.symm),ag,λb qK hx=>xZ.agree h h' hx (hb.blk ag)⟩
theorem KpX.trans{X X':Nat->Prop}{a b c:ah}(h:KpX X a b)(h':KpX X' b c)(hX:∀x,X' x->X x\/a.heap.size<=x):KpX X a c:=
 ⟨h'.os.trans h.os,h'.output.trans h.output,bu h.size h'.size,λx hx hn=>(h'.block x (bG hx h.size) λy=>(hX x y).elim hn ag).trans (h.block x hx hn)⟩
theorem agL{X:Nat->Prop}{Y:Nat->aV}{W v:ah}(h:qQ X Y W v){b o:Nat}{u:ai}(hc:v.cell? ⟨b,o,none⟩=some u):¬X b:=λhx=>by obtain⟨τ,d,hs⟩:=h;obtain⟨c,t,fr,_,h2⟩:=hs.doc b hx;replace h2:v.heap[b]?=some (.cells #[] t fr):=h2;simp[World.cell?,h2]at hc
theorem Yt{w w':ah}(hs:Sub w w'):∀{d:Nat}{v:ai}{e p:Nat},sV w d v e p->sV w' d v e p
 |0,_,_,_,⟨b,h1,h2⟩=>⟨b,h1,hs.row h2⟩
 |_+1,_,_,_,⟨b,s,c,h1,h2,h3⟩=>⟨b,s,c,h1,hs.row h2,Yt hs h3⟩
theorem Vj.sub{w w':ah}{bo:aY}{n:Nat}{sh:Nat->xG}{vN vS vC:Nat->ai}(h:Vj w bo n sh vN vS vC)(hs:Sub w w'):Vj w' bo n sh vN vS vC:=
 ⟨λhn=>by
  obtain⟨b,o,e,hl,hc⟩:=h.cells hn;exact⟨b,o,e,bG hl hs.1,λi hi j v hv=>hs.cell (hc i hi j v hv)⟩,
  λi hi=>⟨hs.lies (h.nm i hi).1,(h.nm i hi).2⟩,λi hi=>⟨hs.lies (h.sz i hi).1,(h.sz i hi).2⟩,λi hi=>hs.lies (h.cl i hi),h.kn⟩
theorem ajB{K L m:Nat}(l:ak)(i:Nat)(hm:m<L):tZ (zW K L l i) m=OG (uB K i) (λj=>xAt l L j m) K:=by unfold tZ zW;rw[bH,dO,nO hm];simp only[fA,aQ,fP];exact cu (Ul (λ_=>D7) K)
theorem amG{w:ah}{C K L:Nat}{dN:Nat->Nat}{x:Nat->Nat->Nat}(hx:∀t m,x t m<256)(h:∀t,t<K->w.cell? ⟨C,t,none⟩=some (.slice (some ⟨dN t,0,none⟩) L L)/\∀m,m<L->w.cell? ⟨dN t,m,none⟩=some (.int .u8 ((x t m:Nat):Int))):apq w C K L dN (DF K L x):=by refine⟨by simp[DF],adL,λt ht=>(h t ht).1,λt l hl m u hu=>?_⟩;simp only[DF,dO]at hl;obtain⟨t',ht',rfl⟩:=dL.1 hl;obtain⟨h1,h2⟩:=fJ.1 ht';simp at h1 h2;subst h2;simp only[dO]at hu;obtain⟨m',WC,rfl⟩:=dL.1 hu;obtain⟨h3,h4⟩:=fJ.1 WC;simp at h3 h4;subst h4;rw[(h t h1).2 m h3,fP,cu (hx t m)]
theorem adN{w:ah}{b:Nat}{l:ak}{ty:aF}(h:w.heap[b]?=some (.cells (sJ l).toArray ty)):qU w (.slice (some ⟨b,0,none⟩) l.length l.length) (sJ l):=
 ⟨some ⟨b,0,none⟩,l.length,eX,eX,λj u hj=>⟨b,0,rfl,by rw[bM];exact cell_of_block h jH⟩⟩
def slB:ai->aY| .slice b _ _=>b|_=>none
def slC:ai->Nat| .slice _ _ c=>c|_=>0
def qOf(L:Nat)(sh:Nat->xG)(vC:Nat->ai):CL:=⟨L,λi=>(sh i).i,λi=>slB (vC i),λi=>slC (vC i)⟩
def amH(bc:Nat)(v:ai):Nat:=match slB v with|some a=>a.block|none=>bc
def apt(v:ai):Nat:=match slB v with|some a=>a.off|none=>0
def abD(K L M:Nat)(sh:Nat->xG)(l:ak):Prop:=∀t,t<M->(sh t).qH=zW K L l (sh t).i
def atj(K L M tt:Nat)(sh:Nat->xG)(l:ak)(vd y:ai)(w:ah):Prop:=
 (y=.tuple #[vd,.nilIface]/\abD K L M sh l/\∀l',l'.length=tt->abD K L M sh l'->l'=l)\/∃ev p,y=.tuple #[.slice none 0 0,ev]/\sV w 0 ev 13 p/\¬∃l',l'.length=tt/\abD K L M sh l'
section
variable {X:Nat->Prop}{Y:Nat->aV}{K N L tt M bc:Nat}{bo:aY}{sh:Nat->xG}{vN vS vC:Nat->ai}{w:ah}
theorem arp(hH:DsH K N L tt M sh)(hC:CR bc M M sh vC w)(hbc:bc<w.heap.size)(Md:∀i,i<M->qU w (vC i) (sJ (sh i).qH)):CO w bc 0 K (qOf L sh vC):=by
 have r:w.rowIs bc _ _ _:=hC;have:=hH.kM;refine⟨hbc,λi hi=>?_,λi hi=>?_⟩
 .have:=r.cell (i:=i*2) ag;simp only[show i*2/2=i by omega,show i<M by omega,aX,crF,show i*2%2=0 by omega]at this;rw[bM];exact this
 .have h2:=r.cell (i:=i*2+1) ag;simp only[show(i*2+1)/2=i by omega,show i<M by omega,aX,crF,show¬(i*2+1)%2=0 by omega,bQ]at h2;rw[bM,h2];obtain⟨ba,cap,e,_⟩:=Md i ag;have hl:=hH.len i ag;simp only[qOf,e,slB,slC];simp[sJ,hl]
theorem arq(hH:DsH K N L tt M sh)(hbc:bc<w.heap.size)(Md:∀i,i<M->qU w (vC i) (sJ (sh i).qH)):DO w K (qOf L sh vC) (λi=>if 0<L then amH bc (vC i)else bc) (λi=>apt (vC i)) (λi m=>tZ (sh i).qH m):=by
 have hkM:=hH.kM
 have key:∀i,i<K->0<L->∃b off cap,vC i=.slice (some ⟨b,off,none⟩) L cap/\∀m,m<L->w.cell? ⟨b,off+m,none⟩=some (.int .u8 (tZ (sh i).qH m:Int)):=λi hi hL=>by
  have hl:=hH.len i ag;obtain⟨ba,cap,e,_,hc⟩:=Md i ag;have el:(sJ (sh i).qH).length=L:=by simp[sJ,hl]
  obtain⟨b,off,rfl,_⟩:=hc 0 _ (wJ ag);rw[el]at e;refine⟨b,off,cap,e,λm hm=>?_⟩;obtain⟨b',ahO,e',h⟩:=hc m _ (wJ ag);cases e';exact h
 refine⟨λi hi=>?_,λi hi hL=>?_,λi m hi hm=>?_,λi m=>nG _⟩
 .by_cases hL:0<L
  .obtain⟨b,off,cap,e,h⟩:=key i hi hL;simp only[hL,aX,amH,e,slB];exact rG (h 0 hL)
  .simp only[hL,bQ];exact hbc
 .have hL':0<L:=hL;obtain⟨b,off,cap,e,h⟩:=key i hi hL';simp only[hL',aX,amH,apt,qOf,e,slB]
 .have WC:m<L:=hm;have hL':0<L:=ag;obtain⟨b,off,cap,e,h⟩:=key i hi hL';simp only[hL',aX,amH,apt,e,slB];exact h m WC
end
theorem agM{Fin:Machine->Trace->Prop}(xE:∀m m' ops t,stepT prog m=(.next m',ops)->Fin m' (t++ops)->Fin m t){X:Nat->Prop}{Y:Nat->aV}{e:Nat}{gs:dE}{W v0:ah}{sl:Option (Nat×Nat)}{t:Trace}{qq:Nat->Nat}{fr:aJ}{cs:aP}{K N L tt M cap:Nat}{bo:aY}{sh:Nat->xG}{vN vS vC:Nat->ai}
  (h0:gs[0]?=some (G ((base 38).at ⟨#[.slice bo M cap]++Array.replicate 75 undef,[]⟩ [.code yu]) (fr::cs))) (hB:Ji prog (uV X) e gs W t qq) (hs:qQ X Y W v0)
  (hH:DsH K N L tt M sh) (hS:Vj v0 bo M sh vN vS vC) (he:e+K+N<2147483648)
  (qJ:∀(e':Nat)(l:ak)(vd y:ai)(X':Nat->Prop)(Og:dE)(W':ah)(sl':Option (Nat×Nat))(t':Trace)(q':Nat->Nat)(Y':Nat->aV)(v':ah),e'<=e+K+N->l.length=tt->Og[0]?=some (G (fr.finish y) cs)->
   Ji prog (uV X') e' Og W' t' q'->qQ X' Y' W' v'->(∀b,X b->X' b)->(∀b,X' b->X b\/W.heap.size<=b)->Sub v0 v'->KpX X W W'->qU v' vd (sJ l)->Oz vd tt->atj K L M tt sh l vd y v'->Fin (crowd Og W' sl') t'):
  Fin (crowd gs W sl) t:=by
 obtain⟨k1,kn,n1,kM,hM,sk,sn,st,t1,hl,len,hix,inj⟩:=id hH;have hLt:=D5 (k:=K) k1 tt;have hKL:=amF (k:=K) k1 tt;have yz:W.heap.size=v0.heap.size:=hs.size
 let St:aG->ah->Prop:=λgr W=>∃T bc v1,TD1 (.slice bo M cap) K N tt M bc T/\CR bc M M sh vC v1/\sH v0.heap.size v0 v1/\v0.heap.size<=bc/\gr=G ((base 67).at ⟨#[.int .i64 (K:Int),.slice (some ⟨bc,0,none⟩) M M]++Array.replicate 67 undef,[]⟩ [.code JD]) (frD T::fr::cs)/\qQ X Y W v1
 have key:∀(T:aB)(bc:Nat)(v1:ah),TD1 (.slice bo M cap) K N tt M bc T->CR bc M M sh vC v1->sH v0.heap.size v0 v1->v0.heap.size<=bc->
   uA prog X Y (DM (uV X)) St 38 (fr::cs) [.code do8] ⟨T,[]⟩ v1:=λT bc v1 hT hC hb hbc=>amC (xX X) hT λT' XT y hy=>.stop λd=>⟨T',bc,v1,XT,hC,hb,hbc,rfl,hy.at d⟩
 have amI:=apn (cap:=cap) (xX X) hH hS key;refine late (Fin:=Fin) (Shun:=uV X) (e:=e) xE (λ_ _ _ h=>h) (λgs1 a1 W1 sl1 t1 q1 h01 uw I8=>?_) (amI W hs) W.drawn gs sl t qq h0 hB;obtain⟨T,bc,v1,hT,hC,uu,hbc,rfl,yE⟩:=uw W1.drawn;replace yE:qQ X Y W1 v1:=yE;have KP:=DZ hs yE uu;have UA:=tq uu;have ars:bc<v1.heap.size:=World.rowIs.lt hC;have art:∀i,i<M->qU v1 (vC i) (sJ (sh i).qH):=λi hi=>UA.lies (hS.cl i hi)
 have hDO:=arq (bc:=bc) hH ars art
 have hXb:¬X bc:=λhx=>by obtain⟨τ,d,hh⟩:=hs;have:=hh.bound bc (.inl hx);have:bc<v0.heap.size:=this;omega
 refine ZC xE (q:=qOf L sh vC) h01 I8 yE ⟨ag,ag⟩ kM (az _) (λi hi=>by have:=hix i ag;show(sh i).i<128;omega) (arp hH hC ars art) (λi j hi hj hne=>inj i j ag ag hne) hDO (λi hi=>?_) (by show L<=65536;omega) ag ?_
 .by_cases hL:0<L
  .have h1:=hDO.y i 0 hi hL;exact agL yE h1
  .simp only[hL,bQ];exact hXb
 intro e2 σ B C Wg dN gs2 W2 sl2 t2 q2 Y2 v2 he2 vY hgj h02 Ap zU hWg P6 P7 hcell;have hP:=amG (L:=L) (x:=λt m=>(xF K B (λi m=>tZ (sh i).qH m) σ t m).val) (λt m=>(xF K B (λi m=>tZ (sh i).qH m) σ t m).isLt) hcell;have hfl:=NM L (λt m=>(xF K B (λi m=>tZ (sh i).qH m) σ t m).val) K
 have ajC:∀l':ak,l'.length=tt->abD K L M sh l'->(DF K L (λt m=>(xF K B (λi m=>tZ (sh i).qH m) σ t m).val)).flatten.take tt=l':=λl' h1 h2=>by
  rw[<-h1];refine adM (by rw[h1,hl];exact hKL) λt m ht hm=>amE (ix:=λi=>(sh i).i) vY hgj (λi hi=>?_) ht
  show tZ (sh i).qH m=_;rw[h2 i ag,ajB l' _ hm]
 generalize(DF K L (λt m=>(xF K B (λi m=>tZ (sh i).qH m) σ t m).val))=ls at hP hfl ajC;have Y9:tt<=ls.flatten.length:=by rw[hfl,hl];exact hKL
 have hdl:(ls.flatten.take tt).length=tt:=by rw[gZ];omega
 let St2:aG->ah->Prop:=λgr W=>∃T2 vd v3,TD2 (.slice bo M cap) K N tt M bc vd T2/\qU v3 vd (sJ (ls.flatten.take tt))/\Oz vd tt/\sH v2.heap.size v2 v3/\gr=G ((base 29).at ⟨#[.int .i64 ((K:Nat):Int),.int .i64 ((N:Nat):Int),vd]++Array.replicate 23 undef,[]⟩ [.code zD]) (frF T2::fr::cs)/\qQ (λb=>X b\/b=Wg) Y2 W v3
 have amJ:=apo (Stop:=St2) (cs:=fr::cs) (Y:=Y2) (L:=L) (xX (λb=>X b\/b=Wg)) hT hP ⟨ag,ag⟩ ag Y9 (λT' vd w' a1 a2 a3 a4 y hy=>.stop λd=>⟨T',vd,w',a1,a2,a3,a4,rfl,hy.at d⟩);refine late (Fin:=Fin) (Shun:=uV (λb=>X b\/b=Wg)) (e:=e2) xE (λ_ _ _ h=>h) (λgs3 a3 W3 sl3 t3 q3 h03 aue Ov=>?_) (amJ W2 zU) W2.drawn gs2 sl2 t2 q2 h02 Ap;obtain⟨T2,vd,v3,WV,hLd,hDd,wI,rfl,xI⟩:=aue W3.drawn;replace xI:qQ (λb=>X b\/b=Wg) Y2 W3 v3:=xI;have hk3:=DZ zU xI wI;have abE:=tq wI;have BB:=KP.size;have yf:=P7.size;have Qo:=hk3.size;refine ZE xE h03 Ov xI k1 kn n1 (by rw[hdl];exact hH.t1) hLd ag ?_;intro C2 Wg2 dN2 Wp W4 XQ t4 q4 Y4 v4 h04 IM hs4 apu hC2 Yu hk4 adO;rw[hdl,<-hl]at adO;have Wy:Sub v0 v4:=UA.trans (P6.trans (abE.trans Yu));have apv:Sub v1 v4:=P6.trans (abE.trans Yu)
 have hC4:CR bc M M sh vC v4:=by obtain⟨c,h1,h2,h3⟩:=id hC;exact⟨c,apv.2 _ _ _ _ h1,h2,h3⟩
 have hag:∀i,i<N->v4.cell? ⟨C2,i,none⟩=some (.slice (some ⟨dN2 i,0,none⟩) L L)/\qU v4 (.slice (some ⟨dN2 i,0,none⟩) L L) (sJ (zW K L (ls.flatten.take tt) i)):=λi hi=>by refine⟨(adO i hi).1,?_⟩;have:=adN (adO i hi).2;rw[yJ]at this;exact this
 let St3:aG->ah->Prop:=λgr W=>∃y v5,DoR M sh (zW K L (ls.flatten.take tt)) vd v4 y v5/\gr=G (fr.finish y) cs/\qQ (λb=>(X b\/b=Wg)\/b=Wg2) Y4 W v5
 have Zk:=apr (Stop:=St3) (cs:=fr::cs) (Y:=Y4) (w:=v4) (va:=.slice (some ⟨C2,0,none⟩) N N) (xX (λb=>(X b\/b=Wg)\/b=Wg2)) WV (λT3 hT3=>Jl.2 (amD (Stop:=St3) (xX (λb=>(X b\/b=Wg)\/b=Wg2)) hT3 hM hC4 (λi hi=>Wy.lies (hS.cl i hi)) hix hag λy v5 hy w' uf=>.stop λd=>⟨y,v5,hy,rfl,uf.at d⟩));refine late (Fin:=Fin) (Shun:=uV (λb=>(X b\/b=Wg)\/b=Wg2)) (e:=e2+N) xE (λ_ _ _ h=>h) (λgs5 a5 W5 sl5 t5 q5 h05 auf hB5=>?_) (Zk W4 hs4) W4.drawn Wp XQ t4 q4 h04 IM;obtain⟨y,v5,⟨P_,hy⟩,rfl,DY⟩:=auf W5.drawn;replace DY:qQ (λb=>(X b\/b=Wg)\/b=Wg2) Y4 W5 v5:=DY;have hk5:=DZ hs4 DY P_;have MO:=tq P_;refine qJ (e2+N) (ls.flatten.take tt) vd y _ gs5 W5 sl5 t5 q5 Y4 v5 ag hdl h05 hB5 DY (λb h=>.inl (.inl h)) (λb h=>?_) (Wy.trans MO) ?_ ((Yu.trans MO).lies hLd) hDd ?_
 .rcases h with(h|rfl)|rfl
  .exact .inl h
  .exact .inr ag
  .exact .inr ag
 .refine((KP.trans P7 λx hx=>.inl hx).trans hk3 λx hx=>hx.imp id λh=>ag).trans (hk4.trans hk5 λx hx=>?_) λx hx=>?_
  .rcases hx with h|rfl
   .exact .inl h
   .exact .inr apu
  .rcases hx with h|rfl
   .exact .inl h
   .exact .inr ag
 .rcases hy with⟨h1,h2⟩|⟨ev,p,h1,h2,h3⟩
  .exact .inl ⟨h1,h2,λl' h4 h5=>(ajC l' h4 h5).symm⟩
  .refine .inr ⟨ev,p,h1,h2,λ⟨l',h4,h5⟩=>h3 λt ht=>?_⟩;rw[ajC l' h4 h5];exact h5 t ht
end Go.Proofs.Y
namespace Go.Proofs.Y
open Go.Proofs.Tryz
open Go.RowKit Go.Deep Go.Lf Go.Conc Go.Hp
section
variable {P:aN}{X:Nat->Prop}{Y:Nat->aV}{D:Nat->ah->aH->Prop}{Stop:aG->ah->Prop}{f:aU}{k:b_}{cs:aP}{v:ah}
theorem agN(hD:uU X D){fn:Func}(hf:P.funcs[f]?=some fn){T:aB}{c:aJ}{y:ai}(Ce:∀τ d,(results fn T).run P {v with tape:=τ,drawn:=d}=.ok y {v with tape:=τ,drawn:=d})
  (h:∀w,qQ X Y w v->r_ P D Stop (G (c.finish y) cs) w):uA P X Y D Stop f (c::cs) (.code .ret::k) ⟨T,[]⟩ v:=
 λw hs=>.next rfl λd=>⟨G {Dn none [] f T (.code .ret::k)with mode:=.returning} (c::cs),w.at d,#[],rfl,hD.nil (az _),NG hD hf Ce h _ (hs.at d)⟩
end
section
variable {X:Nat->Prop}{Y:Nat->aV}{D:Nat->ah->aH->Prop}{Stop:aG->ah->Prop}{w:ah}{K N C m cap:Nat}{bo:aY}{f:Nat->qX}{d:qX->ak}{fr:aJ}{cs:aP}
