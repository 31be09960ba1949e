import Derived.Test.YtnbflnamlpodcaaGreatDoorGlA
set_option maxHeartbeats 8000000
set_option maxRecDepth 100000
namespace Go.Proofs.Y
open Go.RowKit Go.Deep Go.Lf Go.Conc Go.Hp
noncomputable def wo:Code:=Tryz.f38.body.getD .skip
noncomputable def do8:Code:=qo (qo (qo (qo wo)))
noncomputable def do9:Code:=qo do8
noncomputable def Y_:Code:=qo do9
theorem ab4:wo=.seq (qG wo) (.seq (qG (qo wo)) (.seq (qG (qo (qo wo))) (.seq (qG (qo (qo (qo wo)))) do8))):=ag
noncomputable def qd8:{y:Array Oper//y=sN (qG do8)}:=⟨_,by(simp only[do8,wo,qG,qo,sN,Tryz.f38,aB];rfl)⟩
noncomputable def Za:Array Oper:=qd8.1
theorem ajl:do8=.seq (.region 8 Za false) do9:=ag
theorem aeq:Za.size=7:=ag
noncomputable def qd9:{y:Array Oper//y=sN (qG do9)}:=⟨_,by(simp only[do9,do8,wo,qG,qo,sN,Tryz.f38,aB];rfl)⟩
noncomputable def dO9:Array Oper:=qd9.1
theorem ajm:do9=.seq (.region 9 dO9 false) Y_:=ag
theorem aer:dO9.size=5:=ag
theorem ahj:∃fn,Tryz.prog.funcs[38]?=some fn:=⟨_,Tryz.func38⟩
def Td(f:Nat->Value)(a0 a4 a5 a6 a7 a10 a11:Value):Array Value:=#[a0,f 1,f 2,f 3,a4,a5,a6,a7,f 8,f 9,a10,a11,f 12,f 13,f 14,f 15,f 16,f 17,f 18,f 19,f 20,f 21,f 22,f 23,f 24,f 25,f 26,f 27,f 28,f 29,f 30,f 31,f 32,f 33,f 34,f 35,f 36,f 37,f 38,f 39,f 40,f 41,f 42,f 43,f 44,f 45,f 46,f 47,f 48,f 49,f 50,f 51,f 52,f 53,f 54,f 55,f 56,f 57,f 58,f 59,f 60,f 61,f 62,f 63,f 64,f 65,f 66,f 67,f 68,f 69,f 70,f 71,f 72,f 73,f 74,f 75]
theorem Tm{T:Array Value}(h:T=#[T.getD 0 undef,T.getD 1 undef,T.getD 2 undef,T.getD 3 undef,T.getD 4 undef,T.getD 5 undef,T.getD 6 undef,T.getD 7 undef,T.getD 8 undef,T.getD 9 undef,T.getD 10 undef,T.getD 11 undef,T.getD 12 undef,T.getD 13 undef,T.getD 14 undef,T.getD 15 undef,T.getD 16 undef,T.getD 17 undef,T.getD 18 undef,T.getD 19 undef,T.getD 20 undef,T.getD 21 undef,T.getD 22 undef,T.getD 23 undef,T.getD 24 undef,T.getD 25 undef,T.getD 26 undef,T.getD 27 undef,T.getD 28 undef,T.getD 29 undef,T.getD 30 undef,T.getD 31 undef,T.getD 32 undef,T.getD 33 undef,T.getD 34 undef,T.getD 35 undef,T.getD 36 undef,T.getD 37 undef,T.getD 38 undef,T.getD 39 undef,T.getD 40 undef,T.getD 41 undef,T.getD 42 undef,T.getD 43 undef,T.getD 44 undef,T.getD 45 undef,T.getD 46 undef,T.getD 47 undef,T.getD 48 undef,T.getD 49 undef,T.getD 50 undef,T.getD 51 undef,T.getD 52 undef,T.getD 53 undef,T.getD 54 undef,T.getD 55 undef,T.getD 56 undef,T.getD 57 undef,T.getD 58 undef,T.getD 59 undef,T.getD 60 undef,T.getD 61 undef,T.getD 62 undef,T.getD 63 undef,T.getD 64 undef,T.getD 65 undef,T.getD 66 undef,T.getD 67 undef,T.getD 68 undef,T.getD 69 undef,T.getD 70 undef,T.getD 71 undef,T.getD 72 undef,T.getD 73 undef,T.getD 74 undef,T.getD 75 undef]):T=Td (λi=>T.getD i undef) (T.getD 0 undef) (T.getD 4 undef) (T.getD 5 undef) (T.getD 6 undef) (T.getD 7 undef) (T.getD 10 undef) (T.getD 11 undef):=h
def TD1(vs:Value)(K N tt M bc:Nat)(T:Array Value):Prop:=∃f:Nat->Value,T=Td f vs (.int .i64 (K:Int)) (.int .i64 (N:Int)) (.int .i64 (tt:Int)) (.slice (some ⟨bc,0,none⟩) M M) (f 10) (f 11)
def TD2(vs:Value)(K N tt M bc:Nat)(vd:Value)(T:Array Value):Prop:=∃f:Nat->Value,T=Td f vs (.int .i64 (K:Int)) (.int .i64 (N:Int)) (.int .i64 (tt:Int)) (.slice (some ⟨bc,0,none⟩) M M) vd (f 11)
def TD3(vs:Value)(K N tt M bc:Nat)(vd va:Value)(T:Array Value):Prop:=∃f:Nat->Value,T=Td f vs (.int .i64 (K:Int)) (.int .i64 (N:Int)) (.int .i64 (tt:Int)) (.slice (some ⟨bc,0,none⟩) M M) vd va
noncomputable def frD(T:Array Value):Frame:=(base 38).at ⟨T,[]⟩ (.inRegion Za [2,3,4,5,6]::[.code do9])
noncomputable def frF(T:Array Value):Frame:=(base 38).at ⟨T,[]⟩ (.inRegion dO9 [3,4]::[.code Y_])
structure DsH(K N L tt M:Nat)(sh:Nat->vH):Prop where
 k1:1<=K
 kn:K<=N
 n1:N<=128
 kM:K<=M
 hM:M<=128
 sk:(sh 0).k=K
 sn:(sh 0).n=N
 st:(sh 0).sizes.sum=tt
 t1:tt<=65536
 hl:L=sF K tt
 len:∀i,i<M->(sh i).qx.length=L
 ix:∀i,i<M->(sh i).i<N
 inj:∀i j,i<M->j<M->i≠j->(sh i).i≠(sh j).i
def crF(sh:Nat->vH)(vC:Nat->Value)(p:Nat):Value:=if p%2=0 then .int .i64 (((sh (p/2)).i:Nat):Int)else vC (p/2)
def CR(bc M j:Nat)(sh:Nat->vH)(vC:Nat->Value)(w:World):Prop:=w.rowIs bc 143 (M*2) (λp=>if p/2<j then crF sh vC p else(if p%2=0 then .int .i64 0 else .slice none 0 0))
theorem CR.start(M:Nat)(sh:Nat->vH)(vC:Nat->Value)(w:World):CR w.heap.size M 0 sh vC (w.alloc (.cells (madeCells #[.int .i64 0,.slice none 0 0] (M*2)) 143)):=by
 have:=World.rowIs_alloc w (madeCells #[.int .i64 0,.slice none 0 0] (M*2)) 143 (λp=>if p/2<0 then crF sh vC p else(if p%2=0 then .int .i64 0 else .slice none 0 0)) (λi hi=>by rw[gK]at hi;rw[ah ae];rcases aoU i with e|e<;>simp[madeCells,hi,e])
 rw[gK]at this;exact this
theorem CR.more{bc M j:Nat}{sh:Nat->vH}{vC:Nat->Value}{w w2:World}(h:CR bc M j sh vC w)(hj:j<M)(hg:bc<w.heap.size)(hb:Below w.heap.size w w2):
  CR bc M (j+1) sh vC ((w2.setCell ⟨bc,j*2,none⟩ (.int .i64 (((sh j).i:Nat):Int))).setCell ⟨bc,j*2+1,none⟩ (vC j))/\(∃u,w2.cell? ⟨bc,j*2,none⟩=some u)/\w2.frozen? ⟨bc,j*2,none⟩=false/\(∃u,(w2.setCell ⟨bc,j*2,none⟩ (.int .i64 (((sh j).i:Nat):Int))).cell? ⟨bc,j*2+1,none⟩=some u)/\(w2.setCell ⟨bc,j*2,none⟩ (.int .i64 (((sh j).i:Nat):Int))).frozen? ⟨bc,j*2+1,none⟩=false:=by
 have r:w2.rowIs bc _ _ _:=World.rowIs.of_block h (hb.block bc hg);have r1:=r.set (j*2) (.int .i64 (((sh j).i:Nat):Int));have r2:=r1.set (j*2+1) (vC j);refine⟨r2.congr λp hp=>?_,⟨_,r.cell (i:=j*2) ae⟩,r.frozen _,⟨_,r1.cell (i:=j*2+1) ae⟩,r1.frozen _⟩;by_cases e1:p=j*2+1
 .subst e1;rw[aj rfl,aj ae,crF,ah ae,show(j*2+1)/2=j by omega]
 .rw[ah e1];by_cases e2:p=j*2
  .subst e2;rw[aj rfl,aj ae,crF,aj ae,show j*2/2=j by omega]
  .rw[ah e2];by_cases e3:p/2<j
   .simp only[e3,show p/2<j+1 by omega,aF]
   .simp only[e3,show¬p/2<j+1 by omega,aU]
theorem aes(l:List Nat):Dh (l.map Int.ofNat)=yh l:=by simp[Dh,yh]
theorem OE(l:List Nat):tot (l.map Int.ofNat)=l.sum:=by unfold tot;rw[je,show(Int.toNat∘Int.ofNat)=id from rfl,List.map_id]
theorem JJ{w w':World}{v:Value}{xs:List Value}(hb:rJ w.heap.size w w')(h:Lies w v xs):Lies w' v xs:=Lies.below (w:={w with tape:=w'.tape}) h hb
theorem O4.bel{w w':World}{bo:Option Addr}{n:Nat}{sh:Nat->vH}{vN vS vC:Nat->Value}(h:O4 w bo n sh vN vS vC)(hb:rJ w.heap.size w w'):O4 w' bo n sh vN vS vC:=
 ⟨λhn=>by
  obtain⟨b,o,e,hl,hc⟩:=h.cells hn;exact⟨b,o,e,aN hl hb.size',λi hi j v hv=>(Below.cell (p:=(⟨b,o+i*7+j,none⟩:Addr)) hb hl).trans (hc i hi j v hv)⟩,
  λi hi=>⟨(JJ hb (h.nm i hi).1),(h.nm i hi).2⟩,λi hi=>⟨(JJ hb (h.sz i hi).1),(h.sz i hi).2⟩,λi hi=>JJ hb (h.cl i hi),h.kn⟩
section
variable {X:Nat->Prop}{Y:Nat->Option Obj}{D:Nat->World->Array Event->Prop}{Stop:Goroutine->World->Prop}{w:World}{cs:List Frame}{K N L tt M cap:Nat}{bo:Option Addr}{sh:Nat->vH}{vN vS vC:Nat->Value}
theorem ajn(rM:uo X D)(hH:DsH K N L tt M sh)(hS:O4 w bo M sh vN vS vC)
  (hnext:∀(T:Array Value)(bc:Nat)(w':World),TD1 (.slice bo M cap) K N tt M bc T->CR bc M M sh vC w'->rJ w.heap.size w w'->w.heap.size<=bc->
   sK Tryz.prog X Y D Stop 38 cs [.code do8] ⟨T,[]⟩ w'):
  sK Tryz.prog X Y D Stop 38 cs [.code wo] ⟨#[.slice bo M cap]++Array.replicate 75 undef,[]⟩ w:=by
 obtain⟨k1,kn,n1,kM,hM,sk,sn,st,t1,hl,len,hix,inj⟩:=hH;rw[ab4];simp only[cu,b_,bV,bY,bf,aW];refine qL qM rM ag rfl ahj λR hR τ d'=>?_
 have bl:rJ w.heap.size w {w with tape:=τ,drawn:=d'}:=(rJ.refl _ w).tp τ d';generalize({w with tape:=τ,drawn:=d'}:World)=wA at bl⊢;simp only[qG,wo,Tryz.f38,aB];go_wp2;refine qL qM rM ag rfl ahj λR hR τ d'=>?_
 replace bl:=bl.tp τ d';generalize({wA with tape:=τ,drawn:=d'}:World)=wB at bl⊢;simp only[qG,qo,wo,Tryz.f38,aB];have Hr:=hS.bel bl;have h0n:(0:Int)<(M:Int):=ae;obtain⟨b,o,rfl,hbl,hcell⟩:=Hr.cells ae;have r0:=hcell 0 ae;unfold QY at r0;obtain⟨q0,q1,q2,q3,q4,q5,q6⟩:=LJ r0;simp only[fF,fG]at q0 q1 q2 q3 q4 q5 q6;have kt:=λm=>Zb (vS 0) ((sh 0).sizes.map Int.ofNat) (by have:=(Hr.sz 0 ae).2;simp;omega) (λi hi=>by simp;cases (sh 0).sizes[i]?<;>simp) (by rw[OE,st];exact t1) (wB.drewN m) (by rw[aes];exact((Hr.sz 0 ae).1.drewN m))
 rw[OE,st]at kt;rw[sk]at q0;rw[sn]at q1;have kT:∀nq,Calls Tryz.prog 65 #[vS 0] (wB.drewN nq) λr w'=>r=.returned (.int .i64 (tt:Int))/\w'=wB.drewN nq:=kt
 clear kt q2 q3 q4 q6 r0 hcell
 go_quiet ((go_at_call 65;exact Calls.quiet_of_same (kT _)))
 clear kT q0 q1 q5;go_wp2;refine qL qM rM ag rfl ahj λR hR τ d'=>?_
 have QZ:rJ w.heap.size w ({wB.drewN nq with tape:=τ,drawn:=d'}:World):=rJ.tp (bl.trans (rJ.of (below_drewN (aA _ _) nq)) bl.size') τ d';generalize({wB.drewN nq with tape:=τ,drawn:=d'}:World)=wC at QZ⊢;simp only[qG,qo,wo,Tryz.f38,aB];have mk:=Tq M hM wC;have C0:=CR.start M sh vC wC;have b0:Below wC.heap.size wC (wC.alloc (.cells (madeCells #[.int .i64 0,.slice none 0 0] (M*2)) 143)):=(aA _ _).alloc (ak _) _;go_wp2;clear mk;have Q3:rJ w.heap.size w (wC.alloc (.cells (madeCells #[.int .i64 0,.slice none 0 0] (M*2)) 143)):=QZ.trans (rJ.of b0) QZ.size';have hlt:wC.heap.size<(wC.alloc (.cells (madeCells #[.int .i64 0,.slice none 0 0] (M*2)) 143)).heap.size:=ai;have hwb:=QZ.size';generalize wC.alloc (.cells (madeCells #[.int .i64 0,.slice none 0 0] (M*2)) 143)=wD at C0 Q3 hlt⊢;generalize wC.heap.size=bc at*;clear b0 QZ bl hbl Hr;refine qL qM rM ag rfl ahj λR hR τ d'=>?_
 replace Q3:=Q3.tp τ d';replace C0:CR bc M 0 sh vC ({wD with tape:=τ,drawn:=d'}:World):=C0;replace hlt:bc<({wD with tape:=τ,drawn:=d'}:World).heap.size:=hlt;generalize({wD with tape:=τ,drawn:=d'}:World)=wE at Q3 C0 hlt⊢;have Hs:=hS.bel Q3;obtain⟨b',o',e',hbl,hcell⟩:=Hs.cells ae;cases e';simp only[qG,qo,wo,Tryz.f38,aB];go_wp2
 go_loopw [8,9,32] (λ_ _ vi wr=>∃j:Nat,j<=M/\vi=.int .i64 (j:Int)/\rJ w.heap.size w wr/\CR bc M j sh vC wr/\bc<wr.heap.size) (λ_ _ vi _=>M-(intOf vi).toNat)
 case atStart=>exact⟨0,ae,rfl,Q3,C0,hlt⟩
 case round=>
  clear C0 hlt Q3 hcell hbl Hs;obtain⟨j,hj,rfl,blr,Cj,hlt⟩:=hrel;by_cases hjm:j<M
  .have ank:(j:Int)<(M:Int):=ae;have Hr:=hS.bel blr;obtain⟨b',o',e',hbl,hcell⟩:=Hr.cells ae;cases e';have rj:=hcell j hjm;have tN:=wK _ (Hr.nm j hjm).1.one;have tS:=wK _ (Hr.sz j hjm).1.one;have tC:=wK _ (Hr.cl j hjm).one;unfold QY at rj;obtain⟨p0,p1,p2,p3,p4,p5,p6⟩:=LJ rj;obtain⟨C2,⟨u1,d1⟩,d2,-,-⟩:=Cj.more hjm hlt (aA _ _);have d3:=World.rowIs.cell Cj (i:=j*2+1) ae;have d4:=World.rowIs.frozen Cj (j*2+1);have cn:=Bo wr (QY (sh j) (vN j) (vS j) (vC j)) 55;have c2:=cn 2;have c6:=cn 6;simp only[QY,iL,iM]at c2 c6;obtain⟨bq,cq,ev⟩:=(Hr.cl j hjm).len;clear cn rj hcell Cj Hr;generalize hvj:vC j=vj at*;subst ev;generalize(rF (sh j).qx).length=nq' at*;have b3:rJ w.heap.size w ((wr.setCell ⟨bc,j*2,none⟩ (.int .i64 (((sh j).i:Nat):Int))).setCell ⟨bc,j*2+1,none⟩ (.slice bq nq' cq)):=(Below.setCell (Below.setCell blr (p:=⟨bc,j*2,none⟩) hwb _) (p:=⟨bc,j*2+1,none⟩) hwb _);have hz2:bc<((wr.setCell ⟨bc,j*2,none⟩ (.int .i64 (((sh j).i:Nat):Int))).setCell ⟨bc,j*2+1,none⟩ (.slice bq nq' cq)).heap.size:=by simp;exact hlt
   go_wp2;generalize(wr.setCell ⟨bc,j*2,none⟩ (.int .i64 (((sh j).i:Nat):Int))).setCell ⟨bc,j*2+1,none⟩ (.slice bq nq' cq)=w3 at*;have b4:∀o:Obj,Below w3.heap.size w3 (w3.alloc o):=λo=>(aA _ _).alloc (ak _) o
   exact⟨⟨j+1,ae,ai,b3.trans (rJ.of (b4 _)) b3.size',World.rowIs.of_block C2 ((b4 _).block bc hz2),aN hz2 (b4 _).size⟩,iW⟩
  .obtain rfl:j=M:=ae;have hnl:¬((j:Int)<(j:Int)):=ae;go_wp2;exact hnext _ bc wr ⟨_,Tm rfl⟩ Cj blr hwb
end
section
variable {X:Nat->Prop}{Y:Nat->Option Obj}{D:Nat->World->Array Event->Prop}{Stop:Goroutine->World->Prop}{w:World}{cs:List Frame}{K N L tt M bc:Nat}{vs:Value}{T:Array Value}
theorem ahk(rM:uo X D)(hT:TD1 vs K N tt M bc T)
  (hnext:∀T',TD1 vs K N tt M bc T'->sK Tryz.prog X Y D Stop 67 (frD T'::cs) [.code FX] ⟨#[.int .i64 (K:Int),.slice (some ⟨bc,0,none⟩) M M]++Array.replicate 67 undef,[]⟩ w):
  sK Tryz.prog X Y D Stop 38 cs [.code do8] ⟨T,[]⟩ w:=by
 obtain⟨g,rfl⟩:=hT;unfold Td;rw[ajl];refine uH rM rfl (zW rM ?_);rw[aeq];simp only[List.range,List.range.loop];refine qm qM rM (.int .i64 (K:Int)) g_ rfl ag (λz _=>aI) ?_;walk_nrm;refine qm qM rM (.slice (some ⟨bc,0,none⟩) M M) g_ rfl ag (λz _=>aI) ?_;walk_nrm;refine uZ rM g_ rfl ax Tryz.func67 ag (c:=FX) ag (vs:=#[.int .i64 (K:Int),.slice (some ⟨bc,0,none⟩) M M]) (n:=67) fC ag ?_;unfold frD at hnext;exact hnext _ ⟨_,Tm rfl⟩
theorem aaZ(rM:uo X D){vd:Value}(hT:TD2 vs K N tt M bc vd T)
  (hnext:∀T',TD2 vs K N tt M bc vd T'->sK Tryz.prog X Y D Stop 29 (frF T'::cs) [.code xW] ⟨#[.int .i64 ((K:Nat):Int),.int .i64 ((N:Nat):Int),vd]++Array.replicate 23 undef,[]⟩ w):
  qR Tryz.prog X Y D Stop none [] 38 cs [.code do9] T w:=by
 obtain⟨g,rfl⟩:=hT;unfold Td;rw[ajm];refine qw rM (yI rM ?_);rw[aer];simp only[List.range,List.range.loop];refine qm qM rM (.int .i64 (K:Int)) kV rfl ag (λz _=>aI) ?_;walk_nrm;refine qm qM rM (.int .i64 (N:Int)) kV rfl ag (λz _=>aI) ?_;walk_nrm;refine qm qM rM vd kV rfl ag (λz _=>aI) ?_;walk_nrm;refine uZ rM kV rfl ax Tryz.func29 ag (c:=xW) ag (vs:=#[.int .i64 (K:Int),.int .i64 (N:Int),vd]) (n:=23) fC ag ?_;unfold frF at hnext;exact hnext _ ⟨_,Tm rfl⟩
theorem ajo(rM:uo X D)(hT:TD1 vs K N tt M bc T){C:Nat}{dN:Nat->Nat}{ls:List (List UInt8)}(hP:ajp w C K L dN ls)(hK:0<K/\K<=128)(hL:L<=65536)(ht:tt<=ls.flatten.length)
  (hnext:∀T' vd w',TD2 vs K N tt M bc vd T'->Lies w' vd (rF (ls.flatten.take tt))->Jy vd tt->rJ w.heap.size w w'->sK Tryz.prog X Y D Stop 29 (frF T'::cs) [.code xW] ⟨#[.int .i64 ((K:Nat):Int),.int .i64 ((N:Nat):Int),vd]++Array.replicate 23 undef,[]⟩ w'):
  ∀z,qH X Y z w->ru Tryz.prog D Stop (G ((frD T).finish (.slice (some ⟨C,0,none⟩) K K)) cs) z:=by
 rw[show frD T=Dn none [] 38 T (.inRegion Za [2,3,4,5,6]::[.code do9])from rfl];rw[uD g_];show qR _ _ _ _ _ _ _ _ _ _ _ _;obtain⟨g,rfl⟩:=hT;unfold Td;walk_nrm;refine FK.2 ?_;refine IY qM rM (qM.body (f:=66) ag ag) (R:=λv w'=>Lies w' v (rF ls.flatten)/\Jy v ls.flatten.length/\rJ w.heap.size w w') g_ rfl ax (vs:=#[.slice (some ⟨C,0,none⟩) K K,.slice none 0 0]) fC (aoV ag) (λτ d=>?_) ?_
 .refine(ab5 (w:={w with tape:=τ,drawn:=d}) (C:=C) (K:=K) (L:=L) (dN:=dN) (ls:=ls) ⟨hP.len,hP.each,hP.at0,hP.byte⟩ hK hL).mono ?_;rintro r w' ⟨v,rfl,h1,h2,h3⟩;exact⟨v,rfl,h1,h2,((rJ.refl _ w).tp τ d).trans (rJ.of h3) (ak _)⟩
 intro vj w1 ⟨hLj,hDj,hbl⟩;refine FK.1 ?_;walk_nrm;generalize ls.flatten=lj at*;rcases hDj with⟨rfl,h0⟩|⟨b,off,cj,rfl,hc⟩
 .obtain rfl:tt=0:=ae;refine qm qM rM (.int .i64 ((0:Nat):Int)) g_ rfl ag (λz _=>aI) ?_;walk_nrm;refine qm qM rM (.slice none 0 0) g_ rfl ag (λz _=>aI) ?_;walk_nrm;refine qm qM rM (.slice none 0 0) g_ rfl ag (λz _=>aI) ?_;walk_nrm;refine r_ rM (aaZ rM ⟨_,Tm rfl⟩ λT' hT'=>hnext T' _ w1 hT' ?_ (.inl ⟨rfl,rfl⟩) hbl);exact⟨none,0,dY,dY,λj u hj=>mM⟩
 .have h1:((tt:Nat):Int)<=((cj:Nat):Int):=ae;have h2:((tt:Nat):Int)<=((lj.length:Nat):Int):=ae
  have hLd:Lies w1 (.slice (some ⟨b,off,none⟩) tt cj) (rF (lj.take tt)):=by have:=Tt hLj (s:=0) (t:=tt) ae cj ae;exact aqb
  refine qm qM rM (.int .i64 ((tt:Nat):Int)) g_ rfl ag (λz _=>aI) ?_;walk_nrm;refine qm qM rM (.slice (some ⟨b,off,none⟩) tt cj) g_ rfl ag (λz _=>aI) ?_;walk_nrm;refine qm qM rM (.slice (some ⟨b,off,none⟩) tt cj) g_ rfl ag (λz _=>aI) ?_;walk_nrm;exact r_ rM (aaZ rM ⟨_,Tm rfl⟩ λT' hT'=>hnext T' _ w1 hT' hLd (.inr ⟨b,off,cj,rfl,ae⟩) hbl)
theorem ajq(rM:uo X D){vd va:Value}(hT:TD2 vs K N tt M bc vd T)
  (hnext:∀T',TD3 vs K N tt M bc vd va T'->qR Tryz.prog X Y D Stop none [] 38 cs [.code Y_] T' w):
  ∀z,qH X Y z w->ru Tryz.prog D Stop (G ((frF T).finish va) cs) z:=by
 rw[show frF T=Dn none [] 38 T (.inRegion dO9 [3,4]::[.code Y_])from rfl];rw[uD kV];show qR _ _ _ _ _ _ _ _ _ _ _ _;obtain⟨g,rfl⟩:=hT;unfold Td;walk_nrm;refine qm qM rM va kV rfl ag (λz _=>aI) ?_;walk_nrm;exact r_ rM (hnext _ ⟨_,Tm rfl⟩)
end
def DoR(M:Nat)(sh:Nat->vH)(again:Nat->List UInt8)(vd:Value)(w:World)(y:Value)(w':World):Prop:=
 rJ w.heap.size w w'/\((y=.tuple #[vd,.nilIface]/\∀t,t<M->(sh t).qx=again (sh t).i)\/∃e p,y=.tuple #[.slice none 0 0,e]/\Chain w' 0 e 13 p/\¬∀t,t<M->(sh t).qx=again (sh t).i)
section
variable {X:Nat->Prop}{Y:Nat->Option Obj}{D:Nat->World->Array Event->Prop}{Stop:Goroutine->World->Prop}{w:World}{cs:List Frame}{K N L tt M bc C:Nat}{vs vd:Value}{T:Array Value}{sh:Nat->vH}{vC va:Nat->Value}{again:Nat->List UInt8}
theorem ahl(rM:uo X D)(hT:TD3 vs K N tt M bc vd (.slice (some ⟨C,0,none⟩) N N) T)(hM:M<=128)(hC:CR bc M M sh vC w)(hcl:∀i,i<M->Lies w (vC i) (rF (sh i).qx))(hix:∀i,i<M->(sh i).i<N)
  (hag:∀i,i<N->w.cell? ⟨C,i,none⟩=some (va i)/\Lies w (va i) (rF (again i))) {c0:Frame}
  (hK:∀y v',DoR M sh again vd w y v'->∀w',qH X Y w' v'->ru Tryz.prog D Stop (G (c0.finish y) cs) w'):
  sK Tryz.prog X Y D Stop 38 (c0::cs) [.code Y_] ⟨T,[]⟩ w:=by
 refine Ha qM rM ag Tryz.func38 (λτ d=>?_) hK;have bl:rJ w.heap.size w {w with tape:=τ,drawn:=d}:=(rJ.refl _ w).tp τ d;generalize({w with tape:=τ,drawn:=d}:World)=wA at bl⊢;obtain⟨g,rfl⟩:=hT;unfold Td
 conv in Y_=>simp only[Y_,do9,do8,wo,qo,Tryz.f38,aB]
 go_wp2
 go_loopw [12,13,58] (λ_ _ vi wr=>∃j:Nat,j<=M/\vi=.int .i64 (j:Int)/\rJ w.heap.size w wr/\∀t,t<j->(sh t).qx=again (sh t).i) (λ_ _ vi _=>M-(intOf vi).toNat)
 case atStart=>exact⟨0,ae,rfl,bl,λt ht=>absurd ht ae⟩
 case round=>
  clear bl;obtain⟨j,hj,rfl,blr,hall⟩:=hrel;by_cases hlt:j<M
  .have hlt':(j:Int)<(M:Int):=ae;have hxN:=hix j hlt;have anl:(((sh j).i:Nat):Int)<(N:Int):=ae;have r0:w.rowIs bc _ _ _:=hC;have p0:=r0.cell (i:=j*2) ae;have p1:=r0.cell (i:=j*2+1) ae;simp only[show j*2/2=j by omega,show(j*2+1)/2=j by omega,hlt,aF,crF,show j*2%2=0 by omega,show¬(j*2+1)%2=0 by omega,aU]at p0 p1;obtain⟨ga,gl⟩:=hag _ hxN;have hs:=tK blr;have L1:=hs.lies (hcl j hlt);have L2:=hs.lies gl;replace p0:=hs.cell p0;replace p1:=hs.cell p1;replace ga:=hs.cell ga;have lb:=cell_lt p0;have lC:=cell_lt ga;simp only at lb lC;obtain⟨bq,cq,ev⟩:=L1.len;obtain⟨bz,cz,ez⟩:=L2.len;have cn:=Bo wr [.int .i64 (((sh j).i:Nat):Int),vC j] 143;have c0:=cn 0;have c1:=cn 1;simp only[iL,iM]at c0 c1;have b1:∀o:Obj,Below wr.heap.size wr (wr.alloc o):=λo=>(aA _ _).alloc (ak _) o
   have ga1:∀o:Obj,(wr.alloc o).cell? ⟨C,(sh j).i,none⟩=some (va (sh j).i):=λo=>((b1 o).cell (p:=⟨C,(sh j).i,none⟩) lC).trans ga
   have kE:∀(o:Obj)(nq:Nat),Calls Tryz.prog 68 #[vC j,va (sh j).i] ((wr.alloc o).drewN nq) λr w'=>r=.returned (.bool ((sh j).qx==again (sh j).i))/\w'=(wr.alloc o).drewN nq:=λo nq=>WE _ _ _ _ _ ((L1.below (b1 o)).drewN nq) ((L2.below (b1 o)).drewN nq)
   have bE:∀(o:Obj)(nq:Nat),rJ w.heap.size w ((wr.alloc o).drewN nq):=λo nq=>blr.trans (rJ.of (below_drewN (b1 o) nq)) blr.size'
   clear cn L1 L2 gl hs r0;generalize hvj:vC j=vj at*;generalize hva:va (sh j).i=vz at*;subst ev ez
   go_wp2_with fail
   replace ga1:=ga1 (.cells #[.int .i64 (((sh j).i:Nat):Int),.slice bq (rF (sh j).qx).length cq] 143);replace kE:=kE (.cells #[.int .i64 (((sh j).i:Nat):Int),.slice bq (rF (sh j).qx).length cq] 143);replace bE:=bE (.cells #[.int .i64 (((sh j).i:Nat):Int),.slice bq (rF (sh j).qx).length cq] 143);generalize wr.alloc (.cells #[.int .i64 (((sh j).i:Nat):Int),.slice bq (rF (sh j).qx).length cq] 143)=w1 at*;clear p0 p1 ga blr b1 lb lC;generalize wr.heap.size=pp at*;rcases he:((sh j).qx==again (sh j).i)with _|_
   .rw[he]at kE
    go_quiet ((go_at_call 68;exact Calls.quiet_of_same (kE _)))
    replace bE:=bE nq;generalize w1.drewN nq=w2 at bE⊢
    go_wp2_with(first|(go_at_call 64;refine(yS _ _ 13 j ax ai _).mono ?_;rintro q w3 ⟨v,rfl,h1,h2⟩))
    go_ret2;exact⟨_,rfl,bE.trans (rJ.of h2) bE.size',.inr ⟨v,j,rfl,h1,λhh=>by rw[hh j hlt]at he;simp at he⟩⟩
   .rw[he]at kE
    go_quiet ((go_at_call 68;exact Calls.quiet_of_same (kE _)))
    replace bE:=bE nq;generalize w1.drewN nq=w2 at bE⊢;go_wp2;refine⟨⟨j+1,ae,ai,bE,λt ht=>?_⟩,iW⟩;rcases aT t j with h|h
    .exact hall t h
    .obtain rfl:t=j:=ae;simpa using he
  .obtain rfl:j=M:=ae;have hnl:¬((j:Int)<(j:Int)):=ae;go_wp2;go_ret2;exact⟨_,rfl,blr,.inl ⟨rfl,hall⟩⟩
end
end Go.Proofs.Y
namespace Go.Proofs.Y
open Go.RowKit Go.Deep
theorem ajr{k:Nat}{M A B:Nat->Nat->F}(hg:F.Gj k M k A B){x y:Nat->F}(h:∀i,i<k->F.dot k (M i) x=y i)(i:Nat)(hi:i<k):F.dot k (B i) y=x i:=by have:=(hg.same x y).2 h i hi;rw[F.xO hi λj hj=>by rw[hg.left i j hi hj]]at this;exact this.symm
theorem aet{r x:Nat->Nat}(hr:∀j,r j<256)(hx:∀j,x j<256):∀n,(F.sum (List.range n) λj=>F.mu (Fin.ofNat 256 (r j)) (Fin.ofNat 256 (x j))).val=Jv r x n
 |0=>rfl
 |n+1=>by rw[WG];show(F.sum (List.range n) λj=>F.mu (Fin.ofNat 256 (r j)) (Fin.ofNat 256 (x j))).val^^^mul (r n%256) (x n%256)=_;rw[aet hr hx n,bu (hr n),bu (hx n)];rfl
theorem aeu(l:List UInt8)(L j m:Nat):YO l L j m<256:=(l.getD (j*L+m) 0).toNat_lt
theorem ahm{K L m:Nat}{ix σ:Nat->Nat}{B:Nat->Nat->F}{yv:Nat->Nat->Nat}{l:List UInt8}(hpl:IZ K ix σ)(hg:∃A,F.Gj K (mF K λs=>ix (σ s)) K A B)(h:∀i,i<K->yv i m=Jv (sQ K (ix i)) (λj=>YO l L j m) K){t:Nat}(ht:t<K):(xF K B yv σ t m).val=YO l L t m:=by
 obtain⟨A,hg⟩:=hg;unfold xF;rw[ajr hg (x:=λj=>Fin.ofNat 256 (YO l L j m)) (λs hs=>?_) t ht]
 .exact bu (aeu l L t m)
 .refine dW ?_;refine(aet (r:=sQ K (ix (σ s))) (λ_=>AV) (λj=>aeu l L j m) K).trans ?_;show _=yv (σ s) m%256;rw[h _ (hpl.lt s hs),bu (OL (λ_=>AV) K)]
def Aq(K L:Nat)(x:Nat->Nat->Nat):List (List UInt8):=(List.range K).map λt=>(List.range L).map λm=>UInt8.ofNat (x t m)
theorem Zc{K L:Nat}{x:Nat->Nat->Nat}:∀l∈Aq K L x,l.length=L:=λl hl=>by obtain⟨t,_,rfl⟩:=eX.1 hl;simp
theorem I7(L:Nat)(x:Nat->Nat->Nat):∀K,(Aq K L x).flatten.length=K*L
 |0=>by simp[Aq]
 |K+1=>by have:=I7 L x K;simp only[Aq]at this⊢;rw[dm,iC,anT,aQ,this];simp[eU]
theorem PQ{L:Nat}(x:Nat->Nat->Nat):∀K i,i<K*L->(Aq K L x).flatten[i]?=some (UInt8.ofNat (x (i/L) (i%L)))
 |0,i,h=>by simp at h
 |K+1,i,h=>by
  have hl:=I7 L x K;have hi:=PQ (L:=L) x K i;simp only[Aq]at hl hi⊢;rw[dm,iC,anT];rcases aT i (K*L)with h1|h1
  .rw[eY (by rw[hl];exact h1)];exact hi h1
  .rw[iO (by rw[hl];exact h1),hl];rw[eU]at h;have e1:i/L=K:=aoX h1 (by rw[eU];exact h)
   have e2:i%L=i-K*L:=by have:=nI i L;rw[e1,fZ]at this;omega
   rw[e1,e2];simp only[fH,jd,jf,List.flatten_nil,dC,bQ];rw[l7 ae];rfl
theorem ahn{k:Nat}(hk:1<=k)(t:Nat):t<=k*sF k t:=by unfold sF;have h1:=nI (t+k-1) k;have h2:=gW (t+k-1) (show 0<k by omega);omega
theorem Zd{K L:Nat}{x:Nat->Nat->Nat}{l:List UInt8}(hl:l.length<=K*L)(h:∀t m,t<K->m<L->x t m=YO l L t m):(Aq K L x).flatten.take l.length=l:=by
 refine jg λi=>?_
 rw[kF];split
 .rename_i hi;have h1:i<K*L:=ae;have hL:0<L:=Nat.pos_of_ne_zero λe=>by subst e;simp at h1
  rw[PQ x K i h1,h _ _ ((anL hL).2 h1) (gW _ hL)];unfold YO sH;rw[fZ,nI,aO,aY hi];simp
 .rename_i hi;rw[gZ ae]
end Go.Proofs.Y
namespace Go.Proofs.Y
open Go.RowKit Go.Deep Go.Lf Go.Conc Go.ConcN Go.Gh Go.Hp
open Go.ConcR (Payload WgAt wgBlock)
theorem AU{X:Nat->Prop}{Y:Nat->Option Obj}{W W' v v':World}(hs:qH X Y W v)(hs':qH X Y W' v')(hb:rJ v.heap.size v v'):KpX X W W':=by obtain⟨τ,d,h⟩:=hs;obtain⟨τ',d',h'⟩:=hs';have e1:W.heap.size=v.heap.size:=h.size;have e2:W'.heap.size=v'.heap.size:=h'.size;have:=hb.size';exact⟨h'.os.trans (Eq.trans (show v'.os=v.os from hb.os) h.os.symm),h'.out.trans (Eq.trans (show v'.output=v.output from hb.output) h.out.symm),ae,λb hlt hx=>vY.agree h h' hx (hb.blk ae)⟩
theorem KpX.trans{X X':Nat->Prop}{a b c:World}(h:KpX X a b)(h':KpX X' b c)(hX:∀x,X' x->X x\/a.heap.size<=x):KpX X a c:=
 ⟨h'.os.trans h.os,h'.output.trans h.output,aK h.size h'.size,λx hx hn=>(h'.block x (aN hx h.size) λy=>(hX x y).elim hn ae).trans (h.block x hx hn)⟩
theorem ab6{X:Nat->Prop}{Y:Nat->Option Obj}{W v:World}(h:qH X Y W v){b o:Nat}{u:Value}(hc:v.cell? ⟨b,o,none⟩=some u):¬X b:=λhx=>by obtain⟨τ,d,hs⟩:=h;obtain⟨c,t,fr,_,h2⟩:=hs.doc b hx;replace h2:v.heap[b]?=some (.cells #[] t fr):=h2;simp[World.cell?,h2]at hc
theorem Tu{w w':World}(hs:Sub w w'):∀{d:Nat}{v:Value}{e p:Nat},Chain w d v e p->Chain w' d v e p
 |0,_,_,_,⟨b,h1,h2⟩=>⟨b,h1,hs.row h2⟩
 |_+1,_,_,_,⟨b,s,c,h1,h2,h3⟩=>⟨b,s,c,h1,hs.row h2,Tu hs h3⟩
theorem O4.sub{w w':World}{bo:Option Addr}{n:Nat}{sh:Nat->vH}{vN vS vC:Nat->Value}(h:O4 w bo n sh vN vS vC)(hs:Sub w w'):O4 w' bo n sh vN vS vC:=
 ⟨λhn=>by
  obtain⟨b,o,e,hl,hc⟩:=h.cells hn;exact⟨b,o,e,aN hl hs.1,λi hi j v hv=>hs.cell (hc i hi j v hv)⟩,
  λi hi=>⟨hs.lies (h.nm i hi).1,(h.nm i hi).2⟩,λi hi=>⟨hs.lies (h.sz i hi).1,(h.sz i hi).2⟩,λi hi=>hs.lies (h.cl i hi),h.kn⟩
theorem aev{K L m:Nat}(l:List UInt8)(i:Nat)(hm:m<L):sH (zn K L l i) m=Jv (sQ K i) (λj=>YO l L j m) K:=by unfold sH zn;rw[aO,bQ,l7 hm];simp only[dK,aB,fE];exact bu (OL (λ_=>AV) K)
theorem aho{w:World}{C K L:Nat}{dN:Nat->Nat}{x:Nat->Nat->Nat}(hx:∀t m,x t m<256)(h:∀t,t<K->w.cell? ⟨C,t,none⟩=some (.slice (some ⟨dN t,0,none⟩) L L)/\∀m,m<L->w.cell? ⟨dN t,m,none⟩=some (.int .u8 ((x t m:Nat):Int))):ajp w C K L dN (Aq K L x):=by refine⟨by simp[Aq],Zc,λt ht=>(h t ht).1,λt l hl m u hu=>?_⟩;simp only[Aq,bQ]at hl;obtain⟨t',ht',rfl⟩:=bU.1 hl;obtain⟨h1,h2⟩:=dH.1 ht';simp at h1 h2;subst h2;simp only[bQ]at hu;obtain⟨m',hm',rfl⟩:=bU.1 hu;obtain⟨h3,h4⟩:=dH.1 hm';simp at h3 h4;subst h4;rw[(h t h1).2 m h3,fE,bu (hx t m)]
theorem Ze{w:World}{b:Nat}{l:List UInt8}{ty:TypeId}(h:w.heap[b]?=some (.cells (rF l).toArray ty)):Lies w (.slice (some ⟨b,0,none⟩) l.length l.length) (rF l):=
 ⟨some ⟨b,0,none⟩,l.length,dY,dY,λj u hj=>⟨b,0,rfl,by rw[aS];exact cell_of_block h iR⟩⟩
def slB:Value->Option Addr| .slice b _ _=>b|_=>none
def slC:Value->Nat| .slice _ _ c=>c|_=>0
def qOf(L:Nat)(sh:Nat->vH)(vC:Nat->Value):CL:=⟨L,λi=>(sh i).i,λi=>slB (vC i),λi=>slC (vC i)⟩
def ahp(bc:Nat)(v:Value):Nat:=match slB v with|some a=>a.block|none=>bc
def ajs(v:Value):Nat:=match slB v with|some a=>a.off|none=>0
def V6(K L M:Nat)(sh:Nat->vH)(l:List UInt8):Prop:=∀t,t<M->(sh t).qx=zn K L l (sh t).i
def ame(K L M tt:Nat)(sh:Nat->vH)(l:List UInt8)(vd y:Value)(w:World):Prop:=
 (y=.tuple #[vd,.nilIface]/\V6 K L M sh l/\∀l',l'.length=tt->V6 K L M sh l'->l'=l)\/∃ev p,y=.tuple #[.slice none 0 0,ev]/\Chain w 0 ev 13 p/\¬∃l',l'.length=tt/\V6 K L M sh l'
section
variable {X:Nat->Prop}{Y:Nat->Option Obj}{K N L tt M bc:Nat}{bo:Option Addr}{sh:Nat->vH}{vN vS vC:Nat->Value}{w:World}
theorem akT(hH:DsH K N L tt M sh)(hC:CR bc M M sh vC w)(hbc:bc<w.heap.size)(hcl:∀i,i<M->Lies w (vC i) (rF (sh i).qx)):CO w bc 0 K (qOf L sh vC):=by
 have r:w.rowIs bc _ _ _:=hC;have:=hH.kM;refine⟨hbc,λi hi=>?_,λi hi=>?_⟩
 .have:=r.cell (i:=i*2) ae;simp only[show i*2/2=i by omega,show i<M by omega,aF,crF,show i*2%2=0 by omega]at this;rw[aS];exact this
 .have h2:=r.cell (i:=i*2+1) ae;simp only[show(i*2+1)/2=i by omega,show i<M by omega,aF,crF,show¬(i*2+1)%2=0 by omega,aU]at h2;rw[aS,h2];obtain⟨ba,cap,e,_⟩:=hcl i ae;have hl:=hH.len i ae;simp only[qOf,e,slB,slC];simp[rF,hl]
theorem akU(hH:DsH K N L tt M sh)(hbc:bc<w.heap.size)(hcl:∀i,i<M->Lies w (vC i) (rF (sh i).qx)):DO w K (qOf L sh vC) (λi=>if 0<L then ahp bc (vC i)else bc) (λi=>ajs (vC i)) (λi m=>sH (sh i).qx m):=by
 have hkM:=hH.kM
 have key:∀i,i<K->0<L->∃b off cap,vC i=.slice (some ⟨b,off,none⟩) L cap/\∀m,m<L->w.cell? ⟨b,off+m,none⟩=some (.int .u8 (sH (sh i).qx m:Int)):=λi hi hL=>by
  have hl:=hH.len i ae;obtain⟨ba,cap,e,_,hc⟩:=hcl i ae;have el:(rF (sh i).qx).length=L:=by simp[rF,hl]
  obtain⟨b,off,rfl,_⟩:=hc 0 _ (vJ ae);rw[el]at e;refine⟨b,off,cap,e,λm hm=>?_⟩;obtain⟨b',off',e',h⟩:=hc m _ (vJ ae);cases e';exact h
 refine⟨λi hi=>?_,λi hi hL=>?_,λi m hi hm=>?_,λi m=>lM _⟩
 .by_cases hL:0<L
  .obtain⟨b,off,cap,e,h⟩:=key i hi hL;simp only[hL,aF,ahp,e,slB];exact cell_lt (h 0 hL)
  .simp only[hL,aU];exact hbc
 .have hL':0<L:=hL;obtain⟨b,off,cap,e,h⟩:=key i hi hL';simp only[hL',aF,ahp,ajs,qOf,e,slB]
 .have hm':m<L:=hm;have hL':0<L:=ae;obtain⟨b,off,cap,e,h⟩:=key i hi hL';simp only[hL',aF,ahp,ajs,e,slB];exact h m hm'
end
theorem abH{Fin:Machine->Trace->Prop}(hpre:∀m m' ops t,stepT Tryz.prog m=(.next m',ops)->Fin m' (t++ops)->Fin m t){X:Nat->Prop}{Y:Nat->Option Obj}{e:Nat}{gs:Array Goroutine}{W v0:World}{sl:Option (Nat×Nat)}{t:Trace}{qq:Nat->Nat}{fr:Frame}{cs:List Frame}{K N L tt M cap:Nat}{bo:Option Addr}{sh:Nat->vH}{vN vS vC:Nat->Value}
  (h0:gs[0]?=some (G ((base 38).at ⟨#[.slice bo M cap]++Array.replicate 75 undef,[]⟩ [.code wo]) (fr::cs))) (hB:Fz Tryz.prog (uj X) e gs W t qq) (hs:qH X Y W v0)
  (hH:DsH K N L tt M sh) (hS:O4 v0 bo M sh vN vS vC) (he:e+K+N<2147483648)
  (hnext:∀(e':Nat)(l:List UInt8)(vd y:Value)(X':Nat->Prop)(gs':Array Goroutine)(W':World)(sl':Option (Nat×Nat))(t':Trace)(q':Nat->Nat)(Y':Nat->Option Obj)(v':World),e'<=e+K+N->l.length=tt->gs'[0]?=some (G (fr.finish y) cs)->
   Fz Tryz.prog (uj X') e' gs' W' t' q'->qH X' Y' W' v'->(∀b,X b->X' b)->(∀b,X' b->X b\/W.heap.size<=b)->Sub v0 v'->KpX X W W'->Lies v' vd (rF l)->Jy vd tt->ame K L M tt sh l vd y v'->Fin (crowd gs' W' sl') t'):
  Fin (crowd gs W sl) t:=by
 obtain⟨k1,kn,n1,kM,hM,sk,sn,st,t1,hl,len,hix,inj⟩:=id hH;have hLt:=B_ (k:=K) k1 tt;have hKL:=ahn (k:=K) k1 tt;have hz0:W.heap.size=v0.heap.size:=hs.size
 let St:Goroutine->World->Prop:=λgr W=>∃T bc v1,TD1 (.slice bo M cap) K N tt M bc T/\CR bc M M sh vC v1/\rJ v0.heap.size v0 v1/\v0.heap.size<=bc/\gr=G ((base 67).at ⟨#[.int .i64 (K:Int),.slice (some ⟨bc,0,none⟩) M M]++Array.replicate 67 undef,[]⟩ [.code FX]) (frD T::fr::cs)/\qH X Y W v1
 have key:∀(T:Array Value)(bc:Nat)(v1:World),TD1 (.slice bo M cap) K N tt M bc T->CR bc M M sh vC v1->rJ v0.heap.size v0 v1->v0.heap.size<=bc->
   sK Tryz.prog X Y (DM (uj X)) St 38 (fr::cs) [.code do8] ⟨T,[]⟩ v1:=λT bc v1 hT hC hb hbc=>ahk (yO X) hT λT' hT' y hy=>.stop λd=>⟨T',bc,v1,hT',hC,hb,hbc,rfl,hy.at d⟩
 have agM:=ajn (cap:=cap) (yO X) hH hS key;refine late (Fin:=Fin) (Shun:=uj X) (e:=e) hpre (λ_ _ _ h=>h) (λgs1 a1 W1 sl1 t1 q1 h01 hst hB1=>?_) (agM W hs) W.drawn gs sl t qq h0 hB;obtain⟨T,bc,v1,hT,hC,hb1,hbc,rfl,hs1⟩:=hst W1.drawn;replace hs1:qH X Y W1 v1:=hs1;have hk1:=AU hs hs1 hb1;have O5:=tK hb1;have akV:bc<v1.heap.size:=World.rowIs.lt hC;have akW:∀i,i<M->Lies v1 (vC i) (rF (sh i).qx):=λi hi=>O5.lies (hS.cl i hi)
 have hDO:=akU (bc:=bc) hH akV akW
 have hXb:¬X bc:=λhx=>by obtain⟨τ,d,hh⟩:=hs;have:=hh.bound bc (.inl hx);have:bc<v0.heap.size:=this;omega
 refine UT hpre (q:=qOf L sh vC) h01 hB1 hs1 ⟨ae,ae⟩ kM (ak _) (λi hi=>by have:=hix i ae;show(sh i).i<128;omega) (akT hH hC akV akW) (λi j hi hj hne=>inj i j ae ae hne) hDO (λi hi=>?_) (by show L<=65536;omega) ae ?_
 .by_cases hL:0<L
  .have h1:=hDO.y i 0 hi hL;exact ab6 hs1 h1
  .simp only[hL,aU];exact hXb
 intro e2 σ B C Wg dN gs2 W2 sl2 t2 q2 Y2 v2 he2 hpl hgj h02 hB2 hs2 Tf hsub2 hk2 hcell;have hP:=aho (L:=L) (x:=λt m=>(xF K B (λi m=>sH (sh i).qx m) σ t m).val) (λt m=>(xF K B (λi m=>sH (sh i).qx m) σ t m).isLt) hcell;have hfl:=I7 L (λt m=>(xF K B (λi m=>sH (sh i).qx m) σ t m).val) K
 have aew:∀l':List UInt8,l'.length=tt->V6 K L M sh l'->(Aq K L (λt m=>(xF K B (λi m=>sH (sh i).qx m) σ t m).val)).flatten.take tt=l':=λl' h1 h2=>by
  rw[<-h1];refine Zd (by rw[h1,hl];exact hKL) λt m ht hm=>ahm (ix:=λi=>(sh i).i) hpl hgj (λi hi=>?_) ht
  show sH (sh i).qx m=_;rw[h2 i ae,aev l' _ hm]
 generalize(Aq K L (λt m=>(xF K B (λi m=>sH (sh i).qx m) σ t m).val))=ls at hP hfl aew;have htl:tt<=ls.flatten.length:=by rw[hfl,hl];exact hKL
 have hdl:(ls.flatten.take tt).length=tt:=by rw[gu];omega
 let St2:Goroutine->World->Prop:=λgr W=>∃T2 vd v3,TD2 (.slice bo M cap) K N tt M bc vd T2/\Lies v3 vd (rF (ls.flatten.take tt))/\Jy vd tt/\rJ v2.heap.size v2 v3/\gr=G ((base 29).at ⟨#[.int .i64 ((K:Nat):Int),.int .i64 ((N:Nat):Int),vd]++Array.replicate 23 undef,[]⟩ [.code xW]) (frF T2::fr::cs)/\qH (λb=>X b\/b=Wg) Y2 W v3
 have ahq:=ajo (Stop:=St2) (cs:=fr::cs) (Y:=Y2) (L:=L) (yO (λb=>X b\/b=Wg)) hT hP ⟨ae,ae⟩ ae htl (λT' vd w' a1 a2 a3 a4 y hy=>.stop λd=>⟨T',vd,w',a1,a2,a3,a4,rfl,hy.at d⟩);refine late (Fin:=Fin) (Shun:=uj (λb=>X b\/b=Wg)) (e:=e2) hpre (λ_ _ _ h=>h) (λgs3 a3 W3 sl3 t3 q3 h03 hst3 hB3=>?_) (ahq W2 hs2) W2.drawn gs2 sl2 t2 q2 h02 hB2;obtain⟨T2,vd,v3,hT2,hLd,hDd,hb3,rfl,hs3⟩:=hst3 W3.drawn;replace hs3:qH (λb=>X b\/b=Wg) Y2 W3 v3:=hs3;have hk3:=AU hs2 hs3 hb3;have Ij:=tK hb3;have hw1:=hk1.size;have hw2:=hk2.size;have hw3:=hk3.size;refine UU hpre h03 hB3 hs3 k1 kn n1 (by rw[hdl];exact hH.t1) hLd ae ?_;intro C2 Wg2 dN2 gs4 W4 sl4 t4 q4 Y4 v4 h04 hB4 hs4 amf hC2 JK hk4 Zf;rw[hdl,<-hl]at Zf;have hsub:Sub v0 v4:=O5.trans (hsub2.trans (Ij.trans JK));have ajt:Sub v1 v4:=hsub2.trans (Ij.trans JK)
 have hC4:CR bc M M sh vC v4:=by obtain⟨c,h1,h2,h3⟩:=id hC;exact⟨c,ajt.2 _ _ _ _ h1,h2,h3⟩
 have hag:∀i,i<N->v4.cell? ⟨C2,i,none⟩=some (.slice (some ⟨dN2 i,0,none⟩) L L)/\Lies v4 (.slice (some ⟨dN2 i,0,none⟩) L L) (rF (zn K L (ls.flatten.take tt) i)):=λi hi=>by refine⟨(Zf i hi).1,?_⟩;have:=Ze (Zf i hi).2;rw[wM]at this;exact this
 let St3:Goroutine->World->Prop:=λgr W=>∃y v5,DoR M sh (zn K L (ls.flatten.take tt)) vd v4 y v5/\gr=G (fr.finish y) cs/\qH (λb=>(X b\/b=Wg)\/b=Wg2) Y4 W v5
 have UC:=ajq (Stop:=St3) (cs:=fr::cs) (Y:=Y4) (w:=v4) (va:=.slice (some ⟨C2,0,none⟩) N N) (yO (λb=>(X b\/b=Wg)\/b=Wg2)) hT2 (λT3 hT3=>FK.2 (ahl (Stop:=St3) (yO (λb=>(X b\/b=Wg)\/b=Wg2)) hT3 hM hC4 (λi hi=>hsub.lies (hS.cl i hi)) hix hag λy v5 hy w' hw'=>.stop λd=>⟨y,v5,hy,rfl,hw'.at d⟩));refine late (Fin:=Fin) (Shun:=uj (λb=>(X b\/b=Wg)\/b=Wg2)) (e:=e2+N) hpre (λ_ _ _ h=>h) (λgs5 a5 W5 sl5 t5 q5 h05 hst5 hB5=>?_) (UC W4 hs4) W4.drawn gs4 sl4 t4 q4 h04 hB4;obtain⟨y,v5,⟨hb5,hy⟩,rfl,hs5⟩:=hst5 W5.drawn;replace hs5:qH (λb=>(X b\/b=Wg)\/b=Wg2) Y4 W5 v5:=hs5;have hk5:=AU hs4 hs5 hb5;have WA:=tK hb5;refine hnext (e2+N) (ls.flatten.take tt) vd y _ gs5 W5 sl5 t5 q5 Y4 v5 ae hdl h05 hB5 hs5 (λb h=>.inl (.inl h)) (λb h=>?_) (hsub.trans WA) ?_ ((JK.trans WA).lies hLd) hDd ?_
 .rcases h with(h|rfl)|rfl
  .exact .inl h
  .exact .inr ae
  .exact .inr ae
 .refine((hk1.trans hk2 λx hx=>.inl hx).trans hk3 λx hx=>hx.imp id λh=>ae).trans (hk4.trans hk5 λx hx=>?_) λx hx=>?_
  .rcases hx with h|rfl
   .exact .inl h
   .exact .inr amf
  .rcases hx with h|rfl
   .exact .inl h
   .exact .inr ae
 .rcases hy with⟨h1,h2⟩|⟨ev,p,h1,h2,h3⟩
  .exact .inl ⟨h1,h2,λl' h4 h5=>(aew l' h4 h5).symm⟩
  .refine .inr ⟨ev,p,h1,h2,λ⟨l',h4,h5⟩=>h3 λt ht=>?_⟩;rw[aew l' h4 h5];exact h5 t ht
