import Derived.Test.YtnbflnamlpodcaaGreatDoorGlA
set_option maxHeartbeats 8000000
set_option maxRecDepth 100000
namespace Go.Proofs.Y
open Go.Proofs.Tryz
open Go.RowKit Go.Deep Go.Lf Go.Conc Go.Hp
noncomputable def xO:Code:=Tryz.f38.body.getD .skip
noncomputable def do8:Code:=qo (qo (qo (qo xO)))
noncomputable def do9:Code:=qo do8
noncomputable def acW:Code:=qo do9
theorem afU:xO=.seq (qJ xO) (.seq (qJ (qo xO)) (.seq (qJ (qo (qo xO))) (.seq (qJ (qo (qo (qo xO)))) do8))):=ag
noncomputable def qd8:{y:Array Oper//y=uk (qJ do8)}:=⟨_,by(simp only[do8,xO,qJ,qo,uk,Tryz.f38,aB];rfl)⟩
noncomputable def dO8:Array Oper:=qd8.1
theorem an7:do8=.seq (.region 8 dO8 false) do9:=ag
theorem aie:dO8.size=7:=ag
noncomputable def qd9:{y:Array Oper//y=uk (qJ do9)}:=⟨_,by(simp only[do9,do8,xO,qJ,qo,uk,Tryz.f38,aB];rfl)⟩
noncomputable def dO9:Array Oper:=qd9.1
theorem an8:do9=.seq (.region 9 dO9 false) acW:=ag
theorem aif:dO9.size=5:=ag
theorem alF:∃fn,prog.funcs[38]?=some fn:=⟨_,func38⟩
def Td(f:Nat->Value)(a0 a4 a5 a6 a7 a10 a11:Value):Array Value:=#[a0,f 1,f 2,f 3,a4,a5,a6,a7,f 8,f 9,a10,a11,f 12,f 13,f 14,f 15,f 16,f 17,f 18,f 19,f 20,f 21,f 22,f 23,f 24,f 25,f 26,f 27,f 28,f 29,f 30,f 31,f 32,f 33,f 34,f 35,f 36,f 37,f 38,f 39,f 40,f 41,f 42,f 43,f 44,f 45,f 46,f 47,f 48,f 49,f 50,f 51,f 52,f 53,f 54,f 55,f 56,f 57,f 58,f 59,f 60,f 61,f 62,f 63,f 64,f 65,f 66,f 67,f 68,f 69,f 70,f 71,f 72,f 73,f 74,f 75]
theorem XB{T:Array Value}(h:T=#[T.getD 0 undef,T.getD 1 undef,T.getD 2 undef,T.getD 3 undef,T.getD 4 undef,T.getD 5 undef,T.getD 6 undef,T.getD 7 undef,T.getD 8 undef,T.getD 9 undef,T.getD 10 undef,T.getD 11 undef,T.getD 12 undef,T.getD 13 undef,T.getD 14 undef,T.getD 15 undef,T.getD 16 undef,T.getD 17 undef,T.getD 18 undef,T.getD 19 undef,T.getD 20 undef,T.getD 21 undef,T.getD 22 undef,T.getD 23 undef,T.getD 24 undef,T.getD 25 undef,T.getD 26 undef,T.getD 27 undef,T.getD 28 undef,T.getD 29 undef,T.getD 30 undef,T.getD 31 undef,T.getD 32 undef,T.getD 33 undef,T.getD 34 undef,T.getD 35 undef,T.getD 36 undef,T.getD 37 undef,T.getD 38 undef,T.getD 39 undef,T.getD 40 undef,T.getD 41 undef,T.getD 42 undef,T.getD 43 undef,T.getD 44 undef,T.getD 45 undef,T.getD 46 undef,T.getD 47 undef,T.getD 48 undef,T.getD 49 undef,T.getD 50 undef,T.getD 51 undef,T.getD 52 undef,T.getD 53 undef,T.getD 54 undef,T.getD 55 undef,T.getD 56 undef,T.getD 57 undef,T.getD 58 undef,T.getD 59 undef,T.getD 60 undef,T.getD 61 undef,T.getD 62 undef,T.getD 63 undef,T.getD 64 undef,T.getD 65 undef,T.getD 66 undef,T.getD 67 undef,T.getD 68 undef,T.getD 69 undef,T.getD 70 undef,T.getD 71 undef,T.getD 72 undef,T.getD 73 undef,T.getD 74 undef,T.getD 75 undef]):T=Td (λi=>T.getD i undef) (T.getD 0 undef) (T.getD 4 undef) (T.getD 5 undef) (T.getD 6 undef) (T.getD 7 undef) (T.getD 10 undef) (T.getD 11 undef):=h
def TD1(vs:Value)(K N tt M bc:Nat)(T:Array Value):Prop:=∃f:Nat->Value,T=Td f vs (.int .i64 (K:Int)) (.int .i64 (N:Int)) (.int .i64 (tt:Int)) (.slice (some ⟨bc,0,none⟩) M M) (f 10) (f 11)
def TD2(vs:Value)(K N tt M bc:Nat)(vd:Value)(T:Array Value):Prop:=∃f:Nat->Value,T=Td f vs (.int .i64 (K:Int)) (.int .i64 (N:Int)) (.int .i64 (tt:Int)) (.slice (some ⟨bc,0,none⟩) M M) vd (f 11)
def TD3(vs:Value)(K N tt M bc:Nat)(vd va:Value)(T:Array Value):Prop:=∃f:Nat->Value,T=Td f vs (.int .i64 (K:Int)) (.int .i64 (N:Int)) (.int .i64 (tt:Int)) (.slice (some ⟨bc,0,none⟩) M M) vd va
noncomputable def frD(T:Array Value):Frame:=(base 38).at ⟨T,[]⟩ (.inRegion dO8 [2,3,4,5,6]::[.code do9])
noncomputable def frF(T:Array Value):Frame:=(base 38).at ⟨T,[]⟩ (.inRegion dO9 [3,4]::[.code acW])
structure DsH(K N L tt M:Nat)(sh:Nat->xg):Prop where
 k1:1<=K
 kn:K<=N
 n1:N<=128
 kM:K<=M
 hM:M<=128
 sk:(sh 0).k=K
 sn:(sh 0).n=N
 st:(sh 0).sizes.sum=tt
 t1:tt<=65536
 hl:L=tX K tt
 len:∀i,i<M->(sh i).qy.length=L
 ix:∀i,i<M->(sh i).i<N
 inj:∀i j,i<M->j<M->i≠j->(sh i).i≠(sh j).i
def crF(sh:Nat->xg)(vC:Nat->Value)(p:Nat):Value:=if p%2=0 then .int .i64 (((sh (p/2)).i:Nat):Int)else vC (p/2)
def CR(bc M j:Nat)(sh:Nat->xg)(vC:Nat->Value)(w:World):Prop:=w.rowIs bc 143 (M*2) (λp=>if p/2<j then crF sh vC p else(if p%2=0 then .int .i64 0 else .slice none 0 0))
theorem CR.start(M:Nat)(sh:Nat->xg)(vC:Nat->Value)(w:World):CR w.heap.size M 0 sh vC (w.alloc (.cells (madeCells #[.int .i64 0,.slice none 0 0] (M*2)) 143)):=by
 have:=World.rowIs_alloc w (madeCells #[.int .i64 0,.slice none 0 0] (M*2)) 143 (λp=>if p/2<0 then crF sh vC p else(if p%2=0 then .int .i64 0 else .slice none 0 0)) (λi hi=>by rw[gX]at hi;rw[ah ae];rcases avd i with e|e<;>simp[madeCells,hi,e])
 rw[gX]at this;exact this
theorem CR.more{bc M j:Nat}{sh:Nat->xg}{vC:Nat->Value}{w w2:World}(h:CR bc M j sh vC w)(hj:j<M)(hg:bc<w.heap.size)(hb:Below w.heap.size w w2):
  CR bc M (j+1) sh vC ((w2.setCell ⟨bc,j*2,none⟩ (.int .i64 (((sh j).i:Nat):Int))).setCell ⟨bc,j*2+1,none⟩ (vC j))/\(∃u,w2.cell? ⟨bc,j*2,none⟩=some u)/\w2.frozen? ⟨bc,j*2,none⟩=false/\(∃u,(w2.setCell ⟨bc,j*2,none⟩ (.int .i64 (((sh j).i:Nat):Int))).cell? ⟨bc,j*2+1,none⟩=some u)/\(w2.setCell ⟨bc,j*2,none⟩ (.int .i64 (((sh j).i:Nat):Int))).frozen? ⟨bc,j*2+1,none⟩=false:=by
 have r:w2.rowIs bc _ _ _:=World.rowIs.of_block h (hb.block bc hg);have r1:=r.set (j*2) (.int .i64 (((sh j).i:Nat):Int));have r2:=r1.set (j*2+1) (vC j);refine⟨r2.congr λp hp=>?_,⟨_,r.cell (i:=j*2) ae⟩,r.frozen _,⟨_,r1.cell (i:=j*2+1) ae⟩,r1.frozen _⟩;by_cases e1:p=j*2+1
 .subst e1;rw[aj rfl,aj ae,crF,ah ae,show(j*2+1)/2=j by omega]
 .rw[ah e1];by_cases e2:p=j*2
  .subst e2;rw[aj rfl,aj ae,crF,aj ae,show j*2/2=j by omega]
  .rw[ah e2];by_cases e3:p/2<j
   .simp only[e3,show p/2<j+1 by omega,aF]
   .simp only[e3,show¬p/2<j+1 by omega,aU]
theorem aih(l:List Nat):FC (l.map Int.ofNat)=zF l:=by simp[FC,zF]
theorem SY(l:List Nat):EG (l.map Int.ofNat)=l.sum:=by unfold EG;rw[jo,show(Int.toNat∘Int.ofNat)=id from rfl,List.map_id]
theorem N8{w w':World}{v:Value}{xs:List Value}(hb:sK w.heap.size w w')(h:qR w v xs):qR w' v xs:=qR.below (w:={w with tape:=w'.tape}) h hb
theorem TQ.AZ{w w':World}{bo:Option Addr}{n:Nat}{sh:Nat->xg}{vN vS vC:Nat->Value}(h:TQ w bo n sh vN vS vC)(hb:sK w.heap.size w w'):TQ w' bo n sh vN vS vC:=
 ⟨λhn=>by
  obtain⟨b,o,e,hl,hc⟩:=h.cells hn;exact⟨b,o,e,aK hl hb.sH,λi hi j v hv=>(Below.cell (p:=(⟨b,o+i*7+j,none⟩:Addr)) hb hl).trans (hc i hi j v hv)⟩,
  λi hi=>⟨(N8 hb (h.nm i hi).1),(h.nm i hi).2⟩,λi hi=>⟨(N8 hb (h.sz i hi).1),(h.sz i hi).2⟩,λi hi=>N8 hb (h.cl i hi),h.kn⟩
section
variable {X:Nat->Prop}{Y:Nat->Option Obj}{D:Nat->World->Array Event->Prop}{Stop:Goroutine->World->Prop}{w:World}{cs:List Frame}{K N L tt M cap:Nat}{bo:Option Addr}{sh:Nat->xg}{vN vS vC:Nat->Value}
theorem an9(sW:vw X D)(hH:DsH K N L tt M sh)(hS:TQ w bo M sh vN vS vC)
  (qH:∀(T:Array Value)(bc:Nat)(w':World),TD1 (.slice bo M cap) K N tt M bc T->CR bc M M sh vC w'->sK w.heap.size w w'->w.heap.size<=bc->
   uh prog X Y D Stop 38 cs [.code do8] ⟨T,[]⟩ w'):
  uh prog X Y D Stop 38 cs [.code xO] ⟨#[.slice bo M cap]++Array.replicate 75 undef,[]⟩ w:=by
 obtain⟨k1,kn,n1,kM,hM,sk,sn,st,t1,hl,len,hix,inj⟩:=hH;rw[afU];simp only[cu,b_,bU,bY,bg,aV];refine qQ qZ sW ag rfl alF λR hR τ d'=>?_
 have bl:sK w.heap.size w {w with tape:=τ,drawn:=d'}:=(sK.refl _ w).tp τ d';generalize({w with tape:=τ,drawn:=d'}:World)=wA at bl⊢;simp only[qJ,xO,Tryz.f38,aB];go_wp2;refine qQ qZ sW ag rfl alF λR hR τ d'=>?_
 replace bl:=bl.tp τ d';generalize({wA with tape:=τ,drawn:=d'}:World)=wB at bl⊢;simp only[qJ,qo,xO,Tryz.f38,aB];have Hr:=hS.AZ bl;have h0n:(0:Int)<(M:Int):=ae;obtain⟨b,o,rfl,Ns,hcell⟩:=Hr.cells ae;have r0:=hcell 0 ae;unfold VR at r0;obtain⟨q0,q1,q2,q3,q4,q5,q6⟩:=PU r0;simp only[fH,eY]at q0 q1 q2 q3 q4 q5 q6;have kt:=λm=>acX (vS 0) ((sh 0).sizes.map Int.ofNat) (by have:=(Hr.sz 0 ae).2;simp;omega) (λi hi=>by simp;cases (sh 0).sizes[i]?<;>simp) (by rw[SY,st];exact t1) (wB.drewN m) (by rw[aih];exact((Hr.sz 0 ae).1.drewN m))
 rw[SY,st]at kt;rw[sk]at q0;rw[sn]at q1;have kT:∀nq,Calls prog 65 #[vS 0] (wB.drewN nq) λr w'=>r=.returned (.int .i64 (tt:Int))/\w'=wB.drewN nq:=kt
 clear kt q2 q3 q4 q6 r0 hcell
 go_quiet ((go_at_call 65;exact Calls.quiet_of_same (kT _)))
 clear kT q0 q1 q5;go_wp2;refine qQ qZ sW ag rfl alF λR hR τ d'=>?_
 have VS:sK w.heap.size w ({wB.drewN nq with tape:=τ,drawn:=d'}:World):=sK.tp (bl.trans (sK.of (below_drewN (aA _ _) nq)) bl.sH) τ d';generalize({wB.drewN nq with tape:=τ,drawn:=d'}:World)=wC at VS⊢;simp only[qJ,qo,xO,Tryz.f38,aB];have mk:=XC M hM wC;have C0:=CR.start M sh vC wC;have b0:Below wC.heap.size wC (wC.alloc (.cells (madeCells #[.int .i64 0,.slice none 0 0] (M*2)) 143)):=(aA _ _).alloc (ak _) _;go_wp2;clear mk;have bl3:sK w.heap.size w (wC.alloc (.cells (madeCells #[.int .i64 0,.slice none 0 0] (M*2)) 143)):=VS.trans (sK.of b0) VS.sH;have qE:wC.heap.size<(wC.alloc (.cells (madeCells #[.int .i64 0,.slice none 0 0] (M*2)) 143)).heap.size:=ai;have hwb:=VS.sH;generalize wC.alloc (.cells (madeCells #[.int .i64 0,.slice none 0 0] (M*2)) 143)=wD at C0 bl3 qE⊢;generalize wC.heap.size=bc at*;clear b0 VS bl Ns Hr;refine qQ qZ sW ag rfl alF λR hR τ d'=>?_
 replace bl3:=bl3.tp τ d';replace C0:CR bc M 0 sh vC ({wD with tape:=τ,drawn:=d'}:World):=C0;replace qE:bc<({wD with tape:=τ,drawn:=d'}:World).heap.size:=qE;generalize({wD with tape:=τ,drawn:=d'}:World)=wE at bl3 C0 qE⊢;have Hs:=hS.AZ bl3;obtain⟨b',o',e',Ns,hcell⟩:=Hs.cells ae;cases e';simp only[qJ,qo,xO,Tryz.f38,aB];go_wp2
 go_loopw [8,9,32] (λ_ _ vi wr=>∃j:Nat,j<=M/\vi=.int .i64 (j:Int)/\sK w.heap.size w wr/\CR bc M j sh vC wr/\bc<wr.heap.size) (λ_ _ vi _=>M-(intOf vi).toNat)
 case atStart=>exact⟨0,ae,rfl,bl3,C0,qE⟩
 case round=>
  clear C0 qE bl3 hcell Ns Hs;obtain⟨j,hj,rfl,blr,Cj,qE⟩:=hrel;by_cases hjm:j<M
  .have atn:(j:Int)<(M:Int):=ae;have Hr:=hS.AZ blr;obtain⟨b',o',e',Ns,hcell⟩:=Hr.cells ae;cases e';have rj:=hcell j hjm;have tN:=xY _ (Hr.nm j hjm).1.one;have tS:=xY _ (Hr.sz j hjm).1.one;have tC:=xY _ (Hr.cl j hjm).one;unfold VR at rj;obtain⟨p0,p1,p2,p3,p4,p5,p6⟩:=PU rj;obtain⟨C2,⟨u1,d1⟩,d2,-,-⟩:=Cj.more hjm qE (aA _ _);have d3:=World.rowIs.cell Cj (i:=j*2+1) ae;have d4:=World.rowIs.frozen Cj (j*2+1);have cn:=D7 wr (VR (sh j) (vN j) (vS j) (vC j)) 55;have c2:=cn 2;have c6:=cn 6;simp only[VR,iU,iV]at c2 c6;obtain⟨bq,cq,ev⟩:=(Hr.cl j hjm).len;clear cn rj hcell Cj Hr;generalize hvj:vC j=vj at*;subst ev;generalize(r_ (sh j).qy).length=nq' at*;have b3:sK w.heap.size w ((wr.setCell ⟨bc,j*2,none⟩ (.int .i64 (((sh j).i:Nat):Int))).setCell ⟨bc,j*2+1,none⟩ (.slice bq nq' cq)):=(Below.setCell (Below.setCell blr (p:=⟨bc,j*2,none⟩) hwb _) (p:=⟨bc,j*2+1,none⟩) hwb _);have wH:bc<((wr.setCell ⟨bc,j*2,none⟩ (.int .i64 (((sh j).i:Nat):Int))).setCell ⟨bc,j*2+1,none⟩ (.slice bq nq' cq)).heap.size:=by simp;exact qE
   go_wp2;generalize(wr.setCell ⟨bc,j*2,none⟩ (.int .i64 (((sh j).i:Nat):Int))).setCell ⟨bc,j*2+1,none⟩ (.slice bq nq' cq)=w3 at*;have b4:∀o:Obj,Below w3.heap.size w3 (w3.alloc o):=λo=>(aA _ _).alloc (ak _) o
   exact⟨⟨j+1,ae,ai,b3.trans (sK.of (b4 _)) b3.sH,World.rowIs.of_block C2 ((b4 _).block bc wH),aK wH (b4 _).size⟩,fP⟩
  .obtain rfl:j=M:=ae;have GH:¬((j:Int)<(j:Int)):=ae;go_wp2;exact qH _ bc wr ⟨_,XB rfl⟩ Cj blr hwb
end
section
variable {X:Nat->Prop}{Y:Nat->Option Obj}{D:Nat->World->Array Event->Prop}{Stop:Goroutine->World->Prop}{w:World}{cs:List Frame}{K N L tt M bc:Nat}{vs:Value}{T:Array Value}
theorem alG(sW:vw X D)(hT:TD1 vs K N tt M bc T)
  (qH:∀T',TD1 vs K N tt M bc T'->uh prog X Y D Stop 67 (frD T'::cs) [.code Ja] ⟨#[.int .i64 (K:Int),.slice (some ⟨bc,0,none⟩) M M]++Array.replicate 67 undef,[]⟩ w):
  uh prog X Y D Stop 38 cs [.code do8] ⟨T,[]⟩ w:=by
 obtain⟨g,rfl⟩:=hT;unfold Td;rw[an7];refine vX sW rfl (BQ sW ?_);rw[aie];simp only[List.range,List.range.loop];refine qw qZ sW (.int .i64 (K:Int)) h_ rfl ag (λz _=>aN) ?_;walk_nrm;refine qw qZ sW (.slice (some ⟨bc,0,none⟩) M M) h_ rfl ag (λz _=>aN) ?_;walk_nrm;refine xH sW h_ rfl ax func67 ag (c:=Ja) ag (vs:=#[.int .i64 (K:Int),.slice (some ⟨bc,0,none⟩) M M]) (n:=67) fQ ag ?_;unfold frD at qH;exact qH _ ⟨_,XB rfl⟩
theorem aeN(sW:vw X D){vd:Value}(hT:TD2 vs K N tt M bc vd T)
  (qH:∀T',TD2 vs K N tt M bc vd T'->uh prog X Y D Stop 29 (frF T'::cs) [.code zi] ⟨#[.int .i64 ((K:Nat):Int),.int .i64 ((N:Nat):Int),vd]++Array.replicate 23 undef,[]⟩ w):
  rD prog X Y D Stop none [] 38 cs [.code do9] T w:=by
 obtain⟨g,rfl⟩:=hT;unfold Td;rw[an8];refine qx sW (BV sW ?_);rw[aif];simp only[List.range,List.range.loop];refine qw qZ sW (.int .i64 (K:Int)) lh rfl ag (λz _=>aN) ?_;walk_nrm;refine qw qZ sW (.int .i64 (N:Int)) lh rfl ag (λz _=>aN) ?_;walk_nrm;refine qw qZ sW vd lh rfl ag (λz _=>aN) ?_;walk_nrm;refine xH sW lh rfl ax func29 ag (c:=zi) ag (vs:=#[.int .i64 (K:Int),.int .i64 (N:Int),vd]) (n:=23) fQ ag ?_;unfold frF at qH;exact qH _ ⟨_,XB rfl⟩
theorem an_(sW:vw X D)(hT:TD1 vs K N tt M bc T){C:Nat}{dN:Nat->Nat}{ls:List (List UInt8)}(hP:aoa w C K L dN ls)(hK:0<K/\K<=128)(hL:L<=65536)(ht:tt<=ls.flatten.length)
  (qH:∀T' vd w',TD2 vs K N tt M bc vd T'->qR w' vd (r_ (ls.flatten.take tt))->NP vd tt->sK w.heap.size w w'->uh prog X Y D Stop 29 (frF T'::cs) [.code zi] ⟨#[.int .i64 ((K:Nat):Int),.int .i64 ((N:Nat):Int),vd]++Array.replicate 23 undef,[]⟩ w'):
  ∀z,qL X Y z w->rV prog D Stop (G ((frD T).finish (.slice (some ⟨C,0,none⟩) K K)) cs) z:=by
 rw[show frD T=Dn none [] 38 T (.inRegion dO8 [2,3,4,5,6]::[.code do9])from rfl];rw[wU h_];show rD _ _ _ _ _ _ _ _ _ _ _ _;obtain⟨g,rfl⟩:=hT;unfold Td;walk_nrm;refine IQ.2 ?_;refine MG qZ sW (qZ.body (f:=66) ag ag) (R:=λv w'=>qR w' v (r_ ls.flatten)/\NP v ls.flatten.length/\sK w.heap.size w w') h_ rfl ax (vs:=#[.slice (some ⟨C,0,none⟩) K K,.slice none 0 0]) fQ (ave ag) (λτ d=>?_) ?_
 .refine(afV (w:={w with tape:=τ,drawn:=d}) (C:=C) (K:=K) (L:=L) (dN:=dN) (ls:=ls) ⟨hP.len,hP.each,hP.at0,hP.byte⟩ hK hL).mono ?_;rintro r w' ⟨v,rfl,h1,h2,h3⟩;exact⟨v,rfl,h1,h2,((sK.refl _ w).tp τ d).trans (sK.of h3) (ak _)⟩
 intro vj w1 ⟨hLj,hDj,Ns⟩;refine IQ.1 ?_;walk_nrm;generalize ls.flatten=lj at*;rcases hDj with⟨rfl,h0⟩|⟨b,off,cj,rfl,hc⟩
 .obtain rfl:tt=0:=ae;refine qw qZ sW (.int .i64 ((0:Nat):Int)) h_ rfl ag (λz _=>aN) ?_;walk_nrm;refine qw qZ sW (.slice none 0 0) h_ rfl ag (λz _=>aN) ?_;walk_nrm;refine qw qZ sW (.slice none 0 0) h_ rfl ag (λz _=>aN) ?_;walk_nrm;refine tZ sW (aeN sW ⟨_,XB rfl⟩ λT' ZV=>qH T' _ w1 ZV ?_ (.inl ⟨rfl,rfl⟩) Ns);exact⟨none,0,dL,dL,λj u hj=>mX⟩
 .have h1:((tt:Nat):Int)<=((cj:Nat):Int):=ae;have h2:((tt:Nat):Int)<=((lj.length:Nat):Int):=ae
  have hLd:qR w1 (.slice (some ⟨b,off,none⟩) tt cj) (r_ (lj.take tt)):=by have:=XD hLj (s:=0) (t:=tt) ae cj ae;exact aww
  refine qw qZ sW (.int .i64 ((tt:Nat):Int)) h_ rfl ag (λz _=>aN) ?_;walk_nrm;refine qw qZ sW (.slice (some ⟨b,off,none⟩) tt cj) h_ rfl ag (λz _=>aN) ?_;walk_nrm;refine qw qZ sW (.slice (some ⟨b,off,none⟩) tt cj) h_ rfl ag (λz _=>aN) ?_;walk_nrm;exact tZ sW (aeN sW ⟨_,XB rfl⟩ λT' ZV=>qH T' _ w1 ZV hLd (.inr ⟨b,off,cj,rfl,ae⟩) Ns)
theorem aob(sW:vw X D){vd va:Value}(hT:TD2 vs K N tt M bc vd T)
  (qH:∀T',TD3 vs K N tt M bc vd va T'->rD prog X Y D Stop none [] 38 cs [.code acW] T' w):
  ∀z,qL X Y z w->rV prog D Stop (G ((frF T).finish va) cs) z:=by
 rw[show frF T=Dn none [] 38 T (.inRegion dO9 [3,4]::[.code acW])from rfl];rw[wU lh];show rD _ _ _ _ _ _ _ _ _ _ _ _;obtain⟨g,rfl⟩:=hT;unfold Td;walk_nrm;refine qw qZ sW va lh rfl ag (λz _=>aN) ?_;walk_nrm;exact tZ sW (qH _ ⟨_,XB rfl⟩)
end
def DoR(M:Nat)(sh:Nat->xg)(again:Nat->List UInt8)(vd:Value)(w:World)(y:Value)(w':World):Prop:=
 sK w.heap.size w w'/\((y=.tuple #[vd,.nilIface]/\∀t,t<M->(sh t).qy=again (sh t).i)\/∃e p,y=.tuple #[.slice none 0 0,e]/\sG w' 0 e 13 p/\¬∀t,t<M->(sh t).qy=again (sh t).i)
section
variable {X:Nat->Prop}{Y:Nat->Option Obj}{D:Nat->World->Array Event->Prop}{Stop:Goroutine->World->Prop}{w:World}{cs:List Frame}{K N L tt M bc C:Nat}{vs vd:Value}{T:Array Value}{sh:Nat->xg}{vC va:Nat->Value}{again:Nat->List UInt8}
theorem alH(sW:vw X D)(hT:TD3 vs K N tt M bc vd (.slice (some ⟨C,0,none⟩) N N) T)(hM:M<=128)(hC:CR bc M M sh vC w)(KP:∀i,i<M->qR w (vC i) (r_ (sh i).qy))(hix:∀i,i<M->(sh i).i<N)
  (hag:∀i,i<N->w.cell? ⟨C,i,none⟩=some (va i)/\qR w (va i) (r_ (again i))) {c0:Frame}
  (hK:∀y v',DoR M sh again vd w y v'->∀w',qL X Y w' v'->rV prog D Stop (G (c0.finish y) cs) w'):
  uh prog X Y D Stop 38 (c0::cs) [.code acW] ⟨T,[]⟩ w:=by
 refine JX qZ sW ag func38 (λτ d=>?_) hK;have bl:sK w.heap.size w {w with tape:=τ,drawn:=d}:=(sK.refl _ w).tp τ d;generalize({w with tape:=τ,drawn:=d}:World)=wA at bl⊢;obtain⟨g,rfl⟩:=hT;unfold Td
 conv in acW=>simp only[acW,do9,do8,xO,qo,Tryz.f38,aB]
 go_wp2
 go_loopw [12,13,58] (λ_ _ vi wr=>∃j:Nat,j<=M/\vi=.int .i64 (j:Int)/\sK w.heap.size w wr/\∀t,t<j->(sh t).qy=again (sh t).i) (λ_ _ vi _=>M-(intOf vi).toNat)
 case atStart=>exact⟨0,ae,rfl,bl,λt ht=>absurd ht ae⟩
 case round=>
  clear bl;obtain⟨j,hj,rfl,blr,xe⟩:=hrel;by_cases qE:j<M
  .have Ag:(j:Int)<(M:Int):=ae;have hxN:=hix j qE;have ato:(((sh j).i:Nat):Int)<(N:Int):=ae;have r0:w.rowIs bc _ _ _:=hC;have p0:=r0.cell (i:=j*2) ae;have p1:=r0.cell (i:=j*2+1) ae;simp only[show j*2/2=j by omega,show(j*2+1)/2=j by omega,qE,aF,crF,show j*2%2=0 by omega,show¬(j*2+1)%2=0 by omega,aU]at p0 p1;obtain⟨ga,gl⟩:=hag _ hxN;have hs:=uo blr;have L1:=hs.lies (KP j qE);have L2:=hs.lies gl;replace p0:=hs.cell p0;replace p1:=hs.cell p1;replace ga:=hs.cell ga;have lb:=rM p0;have lC:=rM ga;simp only at lb lC;obtain⟨bq,cq,ev⟩:=L1.len;obtain⟨bz,cz,ez⟩:=L2.len;have cn:=D7 wr [.int .i64 (((sh j).i:Nat):Int),vC j] 143;have c0:=cn 0;have c1:=cn 1;simp only[iU,iV]at c0 c1;have b1:∀o:Obj,Below wr.heap.size wr (wr.alloc o):=λo=>(aA _ _).alloc (ak _) o
   have ga1:∀o:Obj,(wr.alloc o).cell? ⟨C,(sh j).i,none⟩=some (va (sh j).i):=λo=>((b1 o).cell (p:=⟨C,(sh j).i,none⟩) lC).trans ga
   have kE:∀(o:Obj)(nq:Nat),Calls prog 68 #[vC j,va (sh j).i] ((wr.alloc o).drewN nq) λr w'=>r=.returned (.bool ((sh j).qy==again (sh j).i))/\w'=(wr.alloc o).drewN nq:=λo nq=>aaD _ _ _ _ _ ((L1.below (b1 o)).drewN nq) ((L2.below (b1 o)).drewN nq)
   have bE:∀(o:Obj)(nq:Nat),sK w.heap.size w ((wr.alloc o).drewN nq):=λo nq=>blr.trans (sK.of (below_drewN (b1 o) nq)) blr.sH
   clear cn L1 L2 gl hs r0;generalize hvj:vC j=vj at*;generalize hva:va (sh j).i=vz at*;subst ev ez
   go_wp2_with fail
   replace ga1:=ga1 (.cells #[.int .i64 (((sh j).i:Nat):Int),.slice bq (r_ (sh j).qy).length cq] 143);replace kE:=kE (.cells #[.int .i64 (((sh j).i:Nat):Int),.slice bq (r_ (sh j).qy).length cq] 143);replace bE:=bE (.cells #[.int .i64 (((sh j).i:Nat):Int),.slice bq (r_ (sh j).qy).length cq] 143);generalize wr.alloc (.cells #[.int .i64 (((sh j).i:Nat):Int),.slice bq (r_ (sh j).qy).length cq] 143)=w1 at*;clear p0 p1 ga blr b1 lb lC;generalize wr.heap.size=pp at*;rcases he:((sh j).qy==again (sh j).i)with _|_
   .rw[he]at kE
    go_quiet ((go_at_call 68;exact Calls.quiet_of_same (kE _)))
    replace bE:=bE nq;generalize w1.drewN nq=w2 at bE⊢
    go_wp2_with(first|(go_at_call 64;refine(Am _ _ 13 j ax ai _).mono ?_;rintro q w3 ⟨v,rfl,h1,h2⟩))
    go_ret2;exact⟨_,rfl,bE.trans (sK.of h2) bE.sH,.inr ⟨v,j,rfl,h1,λhh=>by rw[hh j qE]at he;simp at he⟩⟩
   .rw[he]at kE
    go_quiet ((go_at_call 68;exact Calls.quiet_of_same (kE _)))
    replace bE:=bE nq;generalize w1.drewN nq=w2 at bE⊢;go_wp2;refine⟨⟨j+1,ae,ai,bE,λt ht=>?_⟩,fP⟩;rcases aQ t j with h|h
    .exact xe t h
    .obtain rfl:t=j:=ae;simpa using he
  .obtain rfl:j=M:=ae;have GH:¬((j:Int)<(j:Int)):=ae;go_wp2;go_ret2;exact⟨_,rfl,blr,.inl ⟨rfl,xe⟩⟩
end
end Go.Proofs.Y
namespace Go.Proofs.Y
open Go.Proofs.Tryz
open Go.RowKit Go.Deep
theorem aoc{k:Nat}{M A B:Nat->Nat->F}(hg:F.Gj k M k A B){x y:Nat->F}(h:∀i,i<k->F.dot k (M i) x=y i)(i:Nat)(hi:i<k):F.dot k (B i) y=x i:=by have:=(hg.same x y).2 h i hi;rw[F.y9 hi λj hj=>by rw[hg.left i j hi hj]]at this;exact this.symm
theorem aii{r x:Nat->Nat}(hr:∀j,r j<256)(hx:∀j,x j<256):∀n,(F.sum (List.range n) λj=>F.mu (Fin.ofNat 256 (r j)) (Fin.ofNat 256 (x j))).val=NL r x n
 |0=>rfl
 |n+1=>by rw[aaE];show(F.sum (List.range n) λj=>F.mu (Fin.ofNat 256 (r j)) (Fin.ofNat 256 (x j))).val^^^mul (r n%256) (x n%256)=_;rw[aii hr hx n,aZ (hr n),aZ (hx n)];rfl
theorem aij(l:List UInt8)(L j m:Nat):xAt l L j m<256:=(l.getD (j*L+m) 0).toNat_lt
theorem alI{K L m:Nat}{ix σ:Nat->Nat}{B:Nat->Nat->F}{yv:Nat->Nat->Nat}{l:List UInt8}(vP:MH K ix σ)(hg:∃A,F.Gj K (mF K λs=>ix (σ s)) K A B)(h:∀i,i<K->yv i m=NL (uj K (ix i)) (λj=>xAt l L j m) K){t:Nat}(ht:t<K):(xF K B yv σ t m).val=xAt l L t m:=by
 obtain⟨A,hg⟩:=hg;unfold xF;rw[aoc hg (x:=λj=>Fin.ofNat 256 (xAt l L j m)) (λs hs=>?_) t ht]
 .exact aZ (aij l L t m)
 .refine d_ ?_;refine(aii (r:=uj K (ix (σ s))) (λ_=>Dw) (λj=>aij l L j m) K).trans ?_;show _=yv (σ s) m%256;rw[h _ (vP.lt s hs),aZ (Ti (λ_=>Dw) K)]
def C9(K L:Nat)(x:Nat->Nat->Nat):List (List UInt8):=(List.range K).map λt=>(List.range L).map λm=>UInt8.ofNat (x t m)
theorem acY{K L:Nat}{x:Nat->Nat->Nat}:∀l∈C9 K L x,l.length=L:=λl hl=>by obtain⟨t,_,rfl⟩:=fA.1 hl;simp
theorem MJ(L:Nat)(x:Nat->Nat->Nat):∀K,(C9 K L x).flatten.length=K*L
 |0=>by simp[C9]
 |K+1=>by have:=MJ L x K;simp only[C9]at this⊢;rw[dC,iH,aue,aS,this];simp[fD]
theorem Ut{L:Nat}(x:Nat->Nat->Nat):∀K i,i<K*L->(C9 K L x).flatten[i]?=some (UInt8.ofNat (x (i/L) (i%L)))
 |0,i,h=>by simp at h
 |K+1,i,h=>by
  have hl:=MJ L x K;have hi:=Ut (L:=L) x K i;simp only[C9]at hl hi⊢;rw[dC,iH,aue];rcases aQ i (K*L)with h1|h1
  .rw[fF (by rw[hl];exact h1)];exact hi h1
  .rw[iW (by rw[hl];exact h1),hl];rw[fD]at h;have e1:i/L=K:=avf h1 (by rw[fD];exact h)
   have e2:i%L=i-K*L:=by have:=nO i L;rw[e1,eX]at this;omega
   rw[e1,e2];simp only[fE,jm,jq,List.flatten_nil,dD,bV];rw[mD ae];rfl
theorem alJ{k:Nat}(hk:1<=k)(t:Nat):t<=k*tX k t:=by unfold tX;have h1:=nO (t+k-1) k;have h2:=fJ (t+k-1) (show 0<k by omega);omega
theorem acZ{K L:Nat}{x:Nat->Nat->Nat}{l:List UInt8}(hl:l.length<=K*L)(h:∀t m,t<K->m<L->x t m=xAt l L t m):(C9 K L x).flatten.take l.length=l:=by
 refine iY λi=>?_
 rw[kQ];split
 .rename_i hi;have h1:i<K*L:=ae;have hL:0<L:=Nat.pos_of_ne_zero λe=>by subst e;simp at h1
  rw[Ut x K i h1,h _ _ ((at6 hL).2 h1) (fJ _ hL)];unfold xAt tJ;rw[eX,nO,aO,a_ hi];simp
 .rename_i hi;rw[gG ae]
end Go.Proofs.Y
namespace Go.Proofs.Y
open Go.Proofs.Tryz
open Go.RowKit Go.Deep Go.Lf Go.Conc Go.ConcN Go.Gh Go.Hp
open Go.ConcR (Payload WgAt wgBlock)
theorem Dv{X:Nat->Prop}{Y:Nat->Option Obj}{W W' v v':World}(hs:qL X Y W v)(xn:qL X Y W' v')(hb:sK v.heap.size v v'):KpX X W W':=by obtain⟨τ,d,h⟩:=hs;obtain⟨τ',d',h'⟩:=xn;have e1:W.heap.size=v.heap.size:=h.size;have e2:W'.heap.size=v'.heap.size:=h'.size;have:=hb.sH;exact⟨h'.os.trans (Eq.trans (show v'.os=v.os from hb.os) h.os.symm),h'.out.trans (Eq.trans (show v'.output=v.output from hb.output) h.out.symm),ae,λb qE hx=>xE.agree h h' hx (hb.blk ae)⟩
theorem KpX.trans{X X':Nat->Prop}{a b c:World}(h:KpX X a b)(h':KpX X' b c)(hX:∀x,X' x->X x\/a.heap.size<=x):KpX X a c:=
 ⟨h'.os.trans h.os,h'.output.trans h.output,aJ h.size h'.size,λx hx hn=>(h'.block x (aK hx h.size) λy=>(hX x y).elim hn ae).trans (h.block x hx hn)⟩
theorem afW{X:Nat->Prop}{Y:Nat->Option Obj}{W v:World}(h:qL X Y W v){b o:Nat}{u:Value}(hc:v.cell? ⟨b,o,none⟩=some u):¬X b:=λhx=>by obtain⟨τ,d,hs⟩:=h;obtain⟨c,t,fr,_,h2⟩:=hs.doc b hx;replace h2:v.heap[b]?=some (.cells #[] t fr):=h2;simp[World.cell?,h2]at hc
theorem XE{w w':World}(hs:Sub w w'):∀{d:Nat}{v:Value}{e p:Nat},sG w d v e p->sG w' d v e p
 |0,_,_,_,⟨b,h1,h2⟩=>⟨b,h1,hs.row h2⟩
 |_+1,_,_,_,⟨b,s,c,h1,h2,h3⟩=>⟨b,s,c,h1,hs.row h2,XE hs h3⟩
theorem TQ.sub{w w':World}{bo:Option Addr}{n:Nat}{sh:Nat->xg}{vN vS vC:Nat->Value}(h:TQ w bo n sh vN vS vC)(hs:Sub w w'):TQ w' bo n sh vN vS vC:=
 ⟨λhn=>by
  obtain⟨b,o,e,hl,hc⟩:=h.cells hn;exact⟨b,o,e,aK hl hs.1,λi hi j v hv=>hs.cell (hc i hi j v hv)⟩,
  λi hi=>⟨hs.lies (h.nm i hi).1,(h.nm i hi).2⟩,λi hi=>⟨hs.lies (h.sz i hi).1,(h.sz i hi).2⟩,λi hi=>hs.lies (h.cl i hi),h.kn⟩
theorem aik{K L m:Nat}(l:List UInt8)(i:Nat)(hm:m<L):tJ (AY K L l i) m=NL (uj K i) (λj=>xAt l L j m) K:=by unfold tJ AY;rw[aO,bV,mD hm];simp only[dJ,aB,dW];exact aZ (Ti (λ_=>Dw) K)
theorem alK{w:World}{C K L:Nat}{dN:Nat->Nat}{x:Nat->Nat->Nat}(hx:∀t m,x t m<256)(h:∀t,t<K->w.cell? ⟨C,t,none⟩=some (.slice (some ⟨dN t,0,none⟩) L L)/\∀m,m<L->w.cell? ⟨dN t,m,none⟩=some (.int .u8 ((x t m:Nat):Int))):aoa w C K L dN (C9 K L x):=by refine⟨by simp[C9],acY,λt ht=>(h t ht).1,λt l hl m u hu=>?_⟩;simp only[C9,bV]at hl;obtain⟨t',ht',rfl⟩:=bT.1 hl;obtain⟨h1,h2⟩:=dS.1 ht';simp at h1 h2;subst h2;simp only[bV]at hu;obtain⟨m',VB,rfl⟩:=bT.1 hu;obtain⟨h3,h4⟩:=dS.1 VB;simp at h3 h4;subst h4;rw[(h t h1).2 m h3,dW,aZ (hx t m)]
theorem ac0{w:World}{b:Nat}{l:List UInt8}{ty:TypeId}(h:w.heap[b]?=some (.cells (r_ l).toArray ty)):qR w (.slice (some ⟨b,0,none⟩) l.length l.length) (r_ l):=
 ⟨some ⟨b,0,none⟩,l.length,dL,dL,λj u hj=>⟨b,0,rfl,by rw[aT];exact cell_of_block h jb⟩⟩
def slB:Value->Option Addr| .slice b _ _=>b|_=>none
def slC:Value->Nat| .slice _ _ c=>c|_=>0
def qOf(L:Nat)(sh:Nat->xg)(vC:Nat->Value):CL:=⟨L,λi=>(sh i).i,λi=>slB (vC i),λi=>slC (vC i)⟩
def alL(bc:Nat)(v:Value):Nat:=match slB v with|some a=>a.block|none=>bc
def aod(v:Value):Nat:=match slB v with|some a=>a.off|none=>0
def aag(K L M:Nat)(sh:Nat->xg)(l:List UInt8):Prop:=∀t,t<M->(sh t).qy=AY K L l (sh t).i
def arO(K L M tt:Nat)(sh:Nat->xg)(l:List UInt8)(vd y:Value)(w:World):Prop:=
 (y=.tuple #[vd,.nilIface]/\aag K L M sh l/\∀l',l'.length=tt->aag K L M sh l'->l'=l)\/∃ev p,y=.tuple #[.slice none 0 0,ev]/\sG w 0 ev 13 p/\¬∃l',l'.length=tt/\aag K L M sh l'
section
variable {X:Nat->Prop}{Y:Nat->Option Obj}{K N L tt M bc:Nat}{bo:Option Addr}{sh:Nat->xg}{vN vS vC:Nat->Value}{w:World}
theorem ap5(hH:DsH K N L tt M sh)(hC:CR bc M M sh vC w)(hbc:bc<w.heap.size)(KP:∀i,i<M->qR w (vC i) (r_ (sh i).qy)):CO w bc 0 K (qOf L sh vC):=by
 have r:w.rowIs bc _ _ _:=hC;have:=hH.kM;refine⟨hbc,λi hi=>?_,λi hi=>?_⟩
 .have:=r.cell (i:=i*2) ae;simp only[show i*2/2=i by omega,show i<M by omega,aF,crF,show i*2%2=0 by omega]at this;rw[aT];exact this
 .have h2:=r.cell (i:=i*2+1) ae;simp only[show(i*2+1)/2=i by omega,show i<M by omega,aF,crF,show¬(i*2+1)%2=0 by omega,aU]at h2;rw[aT,h2];obtain⟨ba,cap,e,_⟩:=KP i ae;have hl:=hH.len i ae;simp only[qOf,e,slB,slC];simp[r_,hl]
theorem ap6(hH:DsH K N L tt M sh)(hbc:bc<w.heap.size)(KP:∀i,i<M->qR w (vC i) (r_ (sh i).qy)):DO w K (qOf L sh vC) (λi=>if 0<L then alL bc (vC i)else bc) (λi=>aod (vC i)) (λi m=>tJ (sh i).qy m):=by
 have hkM:=hH.kM
 have key:∀i,i<K->0<L->∃b off cap,vC i=.slice (some ⟨b,off,none⟩) L cap/\∀m,m<L->w.cell? ⟨b,off+m,none⟩=some (.int .u8 (tJ (sh i).qy m:Int)):=λi hi hL=>by
  have hl:=hH.len i ae;obtain⟨ba,cap,e,_,hc⟩:=KP i ae;have el:(r_ (sh i).qy).length=L:=by simp[r_,hl]
  obtain⟨b,off,rfl,_⟩:=hc 0 _ (wR ae);rw[el]at e;refine⟨b,off,cap,e,λm hm=>?_⟩;obtain⟨b',ahd,e',h⟩:=hc m _ (wR ae);cases e';exact h
 refine⟨λi hi=>?_,λi hi hL=>?_,λi m hi hm=>?_,λi m=>lY _⟩
 .by_cases hL:0<L
  .obtain⟨b,off,cap,e,h⟩:=key i hi hL;simp only[hL,aF,alL,e,slB];exact rM (h 0 hL)
  .simp only[hL,aU];exact hbc
 .have hL':0<L:=hL;obtain⟨b,off,cap,e,h⟩:=key i hi hL';simp only[hL',aF,alL,aod,qOf,e,slB]
 .have VB:m<L:=hm;have hL':0<L:=ae;obtain⟨b,off,cap,e,h⟩:=key i hi hL';simp only[hL',aF,alL,aod,e,slB];exact h m VB
end
theorem afy{Fin:Machine->Trace->Prop}(wZ:∀m m' ops t,stepT prog m=(.next m',ops)->Fin m' (t++ops)->Fin m t){X:Nat->Prop}{Y:Nat->Option Obj}{e:Nat}{gs:Array Goroutine}{W v0:World}{sl:Option (Nat×Nat)}{t:Trace}{qq:Nat->Nat}{fr:Frame}{cs:List Frame}{K N L tt M cap:Nat}{bo:Option Addr}{sh:Nat->xg}{vN vS vC:Nat->Value}
  (h0:gs[0]?=some (G ((base 38).at ⟨#[.slice bo M cap]++Array.replicate 75 undef,[]⟩ [.code xO]) (fr::cs))) (hB:IE prog (vg X) e gs W t qq) (hs:qL X Y W v0)
  (hH:DsH K N L tt M sh) (hS:TQ v0 bo M sh vN vS vC) (he:e+K+N<2147483648)
  (qH:∀(e':Nat)(l:List UInt8)(vd y:Value)(X':Nat->Prop)(Nl:Array Goroutine)(W':World)(sl':Option (Nat×Nat))(t':Trace)(q':Nat->Nat)(Y':Nat->Option Obj)(v':World),e'<=e+K+N->l.length=tt->Nl[0]?=some (G (fr.finish y) cs)->
   IE prog (vg X') e' Nl W' t' q'->qL X' Y' W' v'->(∀b,X b->X' b)->(∀b,X' b->X b\/W.heap.size<=b)->Sub v0 v'->KpX X W W'->qR v' vd (r_ l)->NP vd tt->arO K L M tt sh l vd y v'->Fin (crowd Nl W' sl') t'):
  Fin (crowd gs W sl) t:=by
 obtain⟨k1,kn,n1,kM,hM,sk,sn,st,t1,hl,len,hix,inj⟩:=id hH;have hLt:=Du (k:=K) k1 tt;have hKL:=alJ (k:=K) k1 tt;have x_:W.heap.size=v0.heap.size:=hs.size
 let St:Goroutine->World->Prop:=λgr W=>∃T bc v1,TD1 (.slice bo M cap) K N tt M bc T/\CR bc M M sh vC v1/\sK v0.heap.size v0 v1/\v0.heap.size<=bc/\gr=G ((base 67).at ⟨#[.int .i64 (K:Int),.slice (some ⟨bc,0,none⟩) M M]++Array.replicate 67 undef,[]⟩ [.code Ja]) (frD T::fr::cs)/\qL X Y W v1
 have key:∀(T:Array Value)(bc:Nat)(v1:World),TD1 (.slice bo M cap) K N tt M bc T->CR bc M M sh vC v1->sK v0.heap.size v0 v1->v0.heap.size<=bc->
   uh prog X Y (DM (vg X)) St 38 (fr::cs) [.code do8] ⟨T,[]⟩ v1:=λT bc v1 hT hC hb hbc=>alG (Bc X) hT λT' ZV y hy=>.stop λd=>⟨T',bc,v1,ZV,hC,hb,hbc,rfl,hy.at d⟩
 have ak4:=an9 (cap:=cap) (Bc X) hH hS key;refine late (Fin:=Fin) (Shun:=vg X) (e:=e) wZ (λ_ _ _ h=>h) (λgs1 a1 W1 sl1 t1 q1 h01 uw Iq=>?_) (ak4 W hs) W.drawn gs sl t qq h0 hB;obtain⟨T,bc,v1,hT,hC,t_,hbc,rfl,x9⟩:=uw W1.drawn;replace x9:qL X Y W1 v1:=x9;have JR:=Dv hs x9 t_;have TR:=uo t_;have ap7:bc<v1.heap.size:=World.rowIs.lt hC;have ap8:∀i,i<M->qR v1 (vC i) (r_ (sh i).qy):=λi hi=>TR.lies (hS.cl i hi)
 have hDO:=ap6 (bc:=bc) hH ap7 ap8
 have hXb:¬X bc:=λhx=>by obtain⟨τ,d,hh⟩:=hs;have:=hh.bound bc (.inl hx);have:bc<v0.heap.size:=this;omega
 refine YQ wZ (q:=qOf L sh vC) h01 Iq x9 ⟨ae,ae⟩ kM (ak _) (λi hi=>by have:=hix i ae;show(sh i).i<128;omega) (ap5 hH hC ap7 ap8) (λi j hi hj hne=>inj i j ae ae hne) hDO (λi hi=>?_) (by show L<=65536;omega) ae ?_
 .by_cases hL:0<L
  .have h1:=hDO.y i 0 hi hL;exact afW x9 h1
  .simp only[hL,aU];exact hXb
 intro e2 σ B C Wg dN gs2 W2 sl2 t2 q2 Y2 v2 he2 vP hgj h02 Ae zD Xy O5 O3 hcell;have hP:=alK (L:=L) (x:=λt m=>(xF K B (λi m=>tJ (sh i).qy m) σ t m).val) (λt m=>(xF K B (λi m=>tJ (sh i).qy m) σ t m).isLt) hcell;have hfl:=MJ L (λt m=>(xF K B (λi m=>tJ (sh i).qy m) σ t m).val) K
 have ail:∀l':List UInt8,l'.length=tt->aag K L M sh l'->(C9 K L (λt m=>(xF K B (λi m=>tJ (sh i).qy m) σ t m).val)).flatten.take tt=l':=λl' h1 h2=>by
  rw[<-h1];refine acZ (by rw[h1,hl];exact hKL) λt m ht hm=>alI (ix:=λi=>(sh i).i) vP hgj (λi hi=>?_) ht
  show tJ (sh i).qy m=_;rw[h2 i ae,aik l' _ hm]
 generalize(C9 K L (λt m=>(xF K B (λi m=>tJ (sh i).qy m) σ t m).val))=ls at hP hfl ail;have Yp:tt<=ls.flatten.length:=by rw[hfl,hl];exact hKL
 have hdl:(ls.flatten.take tt).length=tt:=by rw[gB];omega
 let St2:Goroutine->World->Prop:=λgr W=>∃T2 vd v3,TD2 (.slice bo M cap) K N tt M bc vd T2/\qR v3 vd (r_ (ls.flatten.take tt))/\NP vd tt/\sK v2.heap.size v2 v3/\gr=G ((base 29).at ⟨#[.int .i64 ((K:Nat):Int),.int .i64 ((N:Nat):Int),vd]++Array.replicate 23 undef,[]⟩ [.code zi]) (frF T2::fr::cs)/\qL (λb=>X b\/b=Wg) Y2 W v3
 have alM:=an_ (Stop:=St2) (cs:=fr::cs) (Y:=Y2) (L:=L) (Bc (λb=>X b\/b=Wg)) hT hP ⟨ae,ae⟩ ae Yp (λT' vd w' a1 a2 a3 a4 y hy=>.stop λd=>⟨T',vd,w',a1,a2,a3,a4,rfl,hy.at d⟩);refine late (Fin:=Fin) (Shun:=vg (λb=>X b\/b=Wg)) (e:=e2) wZ (λ_ _ _ h=>h) (λgs3 a3 W3 sl3 t3 q3 h03 asI Ny=>?_) (alM W2 zD) W2.drawn gs2 sl2 t2 q2 h02 Ae;obtain⟨T2,vd,v3,VT,hLd,hDd,vK,rfl,xu⟩:=asI W3.drawn;replace xu:qL (λb=>X b\/b=Wg) Y2 W3 v3:=xu;have hk3:=Dv zD xu vK;have Ll:=uo vK;have BB:=JR.size;have xG:=O3.size;have Pv:=hk3.size;refine YR wZ h03 Ny xu k1 kn n1 (by rw[hdl];exact hH.t1) hLd ae ?_;intro C2 Wg2 dN2 VU W4 Yn t4 q4 Y4 v4 ZR Ib hs4 arP hC2 Uu hk4 ac1;rw[hdl,<-hl]at ac1;have QC:Sub v0 v4:=TR.trans (O5.trans (Ll.trans Uu));have aoe:Sub v1 v4:=O5.trans (Ll.trans Uu)
 have hC4:CR bc M M sh vC v4:=by obtain⟨c,h1,h2,h3⟩:=id hC;exact⟨c,aoe.2 _ _ _ _ h1,h2,h3⟩
 have hag:∀i,i<N->v4.cell? ⟨C2,i,none⟩=some (.slice (some ⟨dN2 i,0,none⟩) L L)/\qR v4 (.slice (some ⟨dN2 i,0,none⟩) L L) (r_ (AY K L (ls.flatten.take tt) i)):=λi hi=>by refine⟨(ac1 i hi).1,?_⟩;have:=ac0 (ac1 i hi).2;rw[yc]at this;exact this
 let St3:Goroutine->World->Prop:=λgr W=>∃y v5,DoR M sh (AY K L (ls.flatten.take tt)) vd v4 y v5/\gr=G (fr.finish y) cs/\qL (λb=>(X b\/b=Wg)\/b=Wg2) Y4 W v5
 have YB:=aob (Stop:=St3) (cs:=fr::cs) (Y:=Y4) (w:=v4) (va:=.slice (some ⟨C2,0,none⟩) N N) (Bc (λb=>(X b\/b=Wg)\/b=Wg2)) VT (λT3 hT3=>IQ.2 (alH (Stop:=St3) (Bc (λb=>(X b\/b=Wg)\/b=Wg2)) hT3 hM hC4 (λi hi=>QC.lies (hS.cl i hi)) hix hag λy v5 hy w' tH=>.stop λd=>⟨y,v5,hy,rfl,tH.at d⟩));refine late (Fin:=Fin) (Shun:=vg (λb=>(X b\/b=Wg)\/b=Wg2)) (e:=e2+N) wZ (λ_ _ _ h=>h) (λgs5 a5 W5 sl5 t5 q5 h05 asJ hB5=>?_) (YB W4 hs4) W4.drawn VU Yn t4 q4 ZR Ib;obtain⟨y,v5,⟨RF,hy⟩,rfl,FP⟩:=asJ W5.drawn;replace FP:qL (λb=>(X b\/b=Wg)\/b=Wg2) Y4 W5 v5:=FP;have hk5:=Dv hs4 FP RF;have aaA:=uo RF;refine qH (e2+N) (ls.flatten.take tt) vd y _ gs5 W5 sl5 t5 q5 Y4 v5 ae hdl h05 hB5 FP (λb h=>.inl (.inl h)) (λb h=>?_) (QC.trans aaA) ?_ ((Uu.trans aaA).lies hLd) hDd ?_
 .rcases h with(h|rfl)|rfl
  .exact .inl h
  .exact .inr ae
  .exact .inr ae
 .refine((JR.trans O3 λx hx=>.inl hx).trans hk3 λx hx=>hx.imp id λh=>ae).trans (hk4.trans hk5 λx hx=>?_) λx hx=>?_
  .rcases hx with h|rfl
   .exact .inl h
   .exact .inr arP
  .rcases hx with h|rfl
   .exact .inl h
   .exact .inr ae
 .rcases hy with⟨h1,h2⟩|⟨ev,p,h1,h2,h3⟩
  .exact .inl ⟨h1,h2,λl' h4 h5=>(ail l' h4 h5).symm⟩
  .refine .inr ⟨ev,p,h1,h2,λ⟨l',h4,h5⟩=>h3 λt ht=>?_⟩;rw[ail l' h4 h5];exact h5 t ht
