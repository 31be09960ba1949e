import Derived.Test.YtnbflnamlpodcaaGreatDoorAnB
set_option maxHeartbeats 8000000
set_option maxRecDepth 100000
namespace Go.Proofs.Y
open Go.RowKit Go.Deep Go.Lf Go.Conc Go.Hp
noncomputable def uy:Code:=Tryz.f3.body.getD .skip
noncomputable def Yn:Code:=qo (qo (qo uy))
noncomputable def Q4:Code:=qo Yn
noncomputable def QO:Code:=qo (qo (qo (qo (qo Q4))))
noncomputable def OC:Code:=qo QO
noncomputable def OD:Code:=qo OC
noncomputable def qq3:{y:Array Oper//y=sN (qG Yn)}:=⟨_,by(simp only[Yn,uy,qG,qo,sN,Tryz.f3,aB];rfl)⟩
noncomputable def aP3:Array Oper:=qq3.1
theorem akm:Yn=.seq (.region 3 aP3 false) Q4:=ag
theorem agk:aP3.size=8:=ag
noncomputable def QP:{y:Array Oper//y=sN (qG QO)}:=⟨_,by(simp only[QO,Q4,Yn,uy,qG,qo,sN,Tryz.f3,aB];rfl)⟩
noncomputable def K_:Array Oper:=QP.1
theorem ah5:QO=.seq (.region 13 K_ false) OC:=ag
theorem ac7:K_.size=9:=ag
noncomputable def Jn:{y:Array Oper//y=sN (qG OC)}:=⟨_,by(simp only[OC,QO,Q4,Yn,uy,qG,qo,sN,Tryz.f3,aB];rfl)⟩
noncomputable def Fv:Array Oper:=Jn.1
theorem ah6:OC=.seq (.region 14 Fv false) OD:=ag
theorem ac8:Fv.size=13:=ag
theorem QQ:∃fn,Tryz.prog.funcs[3]?=some fn:=⟨_,Tryz.func3⟩
theorem ac9:uy=.seq (qG uy) (.seq (qG (qo uy)) (.seq (qG (qo (qo uy))) Yn)):=ag
def Tn(f:Nat->Value)(a4 a5 a13 a14 a15 a16 a17 a18 a19 a21 a22 a23 a24 a25 a26:Value):Array Value:=#[f 0,f 1,f 2,f 3,a4,a5,f 6,f 7,f 8,f 9,f 10,f 11,f 12,a13,a14,a15,a16,a17,a18,a19,f 20,a21,a22,a23,a24,a25,a26,f 27,f 28,f 29,f 30,f 31,f 32,f 33,f 34,f 35,f 36,f 37,f 38,f 39,f 40,f 41,f 42,f 43,f 44,f 45,f 46,f 47,f 48,f 49,f 50,f 51,f 52,f 53,f 54,f 55,f 56,f 57,f 58,f 59,f 60,f 61,f 62,f 63,f 64,f 65,f 66,f 67,f 68,f 69,f 70,f 71,f 72,f 73,f 74,f 75,f 76,f 77,f 78,f 79,f 80,f 81,f 82,f 83,f 84,f 85,f 86,f 87,f 88,f 89,f 90,f 91,f 92,f 93,f 94,f 95,f 96,f 97,f 98,f 99,f 100,f 101,f 102,f 103,f 104,f 105,f 106,f 107,f 108,f 109,f 110,f 111,f 112,f 113,f 114,f 115,f 116,f 117,f 118,f 119,f 120,f 121,f 122,f 123,f 124,f 125,f 126,f 127,f 128,f 129,f 130,f 131,f 132]
theorem N9{T:Array Value}(h:T=#[T.getD 0 undef,T.getD 1 undef,T.getD 2 undef,T.getD 3 undef,T.getD 4 undef,T.getD 5 undef,T.getD 6 undef,T.getD 7 undef,T.getD 8 undef,T.getD 9 undef,T.getD 10 undef,T.getD 11 undef,T.getD 12 undef,T.getD 13 undef,T.getD 14 undef,T.getD 15 undef,T.getD 16 undef,T.getD 17 undef,T.getD 18 undef,T.getD 19 undef,T.getD 20 undef,T.getD 21 undef,T.getD 22 undef,T.getD 23 undef,T.getD 24 undef,T.getD 25 undef,T.getD 26 undef,T.getD 27 undef,T.getD 28 undef,T.getD 29 undef,T.getD 30 undef,T.getD 31 undef,T.getD 32 undef,T.getD 33 undef,T.getD 34 undef,T.getD 35 undef,T.getD 36 undef,T.getD 37 undef,T.getD 38 undef,T.getD 39 undef,T.getD 40 undef,T.getD 41 undef,T.getD 42 undef,T.getD 43 undef,T.getD 44 undef,T.getD 45 undef,T.getD 46 undef,T.getD 47 undef,T.getD 48 undef,T.getD 49 undef,T.getD 50 undef,T.getD 51 undef,T.getD 52 undef,T.getD 53 undef,T.getD 54 undef,T.getD 55 undef,T.getD 56 undef,T.getD 57 undef,T.getD 58 undef,T.getD 59 undef,T.getD 60 undef,T.getD 61 undef,T.getD 62 undef,T.getD 63 undef,T.getD 64 undef,T.getD 65 undef,T.getD 66 undef,T.getD 67 undef,T.getD 68 undef,T.getD 69 undef,T.getD 70 undef,T.getD 71 undef,T.getD 72 undef,T.getD 73 undef,T.getD 74 undef,T.getD 75 undef,T.getD 76 undef,T.getD 77 undef,T.getD 78 undef,T.getD 79 undef,T.getD 80 undef,T.getD 81 undef,T.getD 82 undef,T.getD 83 undef,T.getD 84 undef,T.getD 85 undef,T.getD 86 undef,T.getD 87 undef,T.getD 88 undef,T.getD 89 undef,T.getD 90 undef,T.getD 91 undef,T.getD 92 undef,T.getD 93 undef,T.getD 94 undef,T.getD 95 undef,T.getD 96 undef,T.getD 97 undef,T.getD 98 undef,T.getD 99 undef,T.getD 100 undef,T.getD 101 undef,T.getD 102 undef,T.getD 103 undef,T.getD 104 undef,T.getD 105 undef,T.getD 106 undef,T.getD 107 undef,T.getD 108 undef,T.getD 109 undef,T.getD 110 undef,T.getD 111 undef,T.getD 112 undef,T.getD 113 undef,T.getD 114 undef,T.getD 115 undef,T.getD 116 undef,T.getD 117 undef,T.getD 118 undef,T.getD 119 undef,T.getD 120 undef,T.getD 121 undef,T.getD 122 undef,T.getD 123 undef,T.getD 124 undef,T.getD 125 undef,T.getD 126 undef,T.getD 127 undef,T.getD 128 undef,T.getD 129 undef,T.getD 130 undef,T.getD 131 undef,T.getD 132 undef]):T=Tn (λi=>T.getD i undef) (T.getD 4 undef) (T.getD 5 undef) (T.getD 13 undef) (T.getD 14 undef) (T.getD 15 undef) (T.getD 16 undef) (T.getD 17 undef) (T.getD 18 undef) (T.getD 19 undef) (T.getD 21 undef) (T.getD 22 undef) (T.getD 23 undef) (T.getD 24 undef) (T.getD 25 undef) (T.getD 26 undef):=h
def TN1(x4 x5:Value)(pb:Nat)(vb:Value)(T:Array Value):Prop:=∃f:Nat->Value,T=Tn f (x4) (x5) (.pointer (some ⟨pb,0,none⟩)) (vb) (f 15) (f 16) (f 17) (f 18) (f 19) (f 21) (f 22) (f 23) (f 24) (f 25) (f 26)
def TN2(x4 x5:Value)(pb:Nat)(vb va:Value)(T:Array Value):Prop:=∃f:Nat->Value,T=Tn f (x4) (x5) (.pointer (some ⟨pb,0,none⟩)) (vb) (va) (.int .i64 0) (f 17) (f 18) (f 19) (f 21) (f 22) (f 23) (f 24) (f 25) (f 26)
def TN3(pb:Nat)(vb:Value)(ct:Nat)(vs:Value)(T:Array Value):Prop:=∃f:Nat->Value,T=Tn f (f 4) (f 5) (.pointer (some ⟨pb,0,none⟩)) (vb) (f 15) (f 16) (f 17) (.int .i64 (ct:Int)) (vs) (f 21) (f 22) (f 23) (f 24) (f 25) (f 26)
def TN4(pb:Nat)(vb:Value)(ct:Nat)(vs y1 y2 y3:Value)(T:Array Value):Prop:=∃f:Nat->Value,T=Tn f (f 4) (f 5) (.pointer (some ⟨pb,0,none⟩)) (vb) (f 15) (f 16) (f 17) (.int .i64 (ct:Int)) (vs) (y1) (y2) (y3) (f 24) (f 25) (f 26)
def TN5(pb:Nat)(vb:Value)(ct:Nat)(y1 y2 y3 z1 z2 z3:Value)(T:Array Value):Prop:=∃f:Nat->Value,T=Tn f (f 4) (f 5) (.pointer (some ⟨pb,0,none⟩)) (vb) (f 15) (f 16) (f 17) (.int .i64 (ct:Int)) (f 19) (y1) (y2) (y3) (z1) (z2) (z3)
noncomputable def frN(T:Array Value):Frame:=(base 3).at ⟨T,[]⟩ (.inRegion aP3 [2,3,4,5,6,7]::[.code Q4])
noncomputable def ahQ(T:Array Value):Frame:=(base 3).at ⟨T,[]⟩ (.inRegion K_ [1,2,3,4,5,6,7,8]::[.code OC])
noncomputable def ahS(T:Array Value):Frame:=(base 3).at ⟨T,[]⟩ (.inRegion Fv [5,6,7,8,9,10,11,12]::[.code OD])
section
variable {X:Nat->Prop}{Y:Nat->Option Obj}{D:Nat->World->Array Event->Prop}{Stop:Goroutine->World->Prop}{w:World}
theorem afE(rM:uo X D){vr x4 x5:Value}{k n c:Int}{zr:List Int}(hr:Ints w vr zr)(hlr:zr.length<9223372036854775807)(hk:In64 k)(hn:In64 n)(hc:In64 c)
  (hnext:∀(T:Array Value)(m:Nat)(f:Nat->qQ)(Dt:Nat->List UInt8)(pb:Nat)(vb:Value)(w':World),TN1 x4 x5 pb vb T->XB (TU k n) (Ie n) (XC c) m f Dt pb vb w'->rJ w.heap.size w w'->
   sK Tryz.prog X Y D Stop 3 [] [.code Yn] ⟨T,[]⟩ w'):
  sK Tryz.prog X Y D Stop 3 [] [.code uy] ⟨#[vr,.int .i64 k,.int .i64 n,.int .i64 c,x4,x5]++Array.replicate 127 undef,[]⟩ w:=by
 rw[ac9];simp only[cu,b_,bV,bY,bf,aW];refine qL qM rM ag rfl QQ λR hR τ d'=>?_
 have bl:rJ w.heap.size w {w with tape:=τ,drawn:=d'}:=(rJ.refl _ w).tp τ d';generalize({w with tape:=τ,drawn:=d'}:World)=wA at bl⊢;simp only[qG,uy,Tryz.f3,aB];go_wp2;refine qL qM rM ag rfl QQ λR hR τ d'=>?_
 replace bl:=bl.tp τ d';generalize({wA with tape:=τ,drawn:=d'}:World)=wB at bl⊢;have kp:=Yo k n c hk hn hc;simp only[prm]at kp;simp only[qG,qo,uy,Tryz.f3,aB];generalize hkk:TU k n=kk at*;generalize hnn:Ie n=nn at*;generalize hcc:XC c=cc at*
 go_wp2_with(first|(go_at_call 6;(with_reducible refine(kp _).mono ?_);rintro r w1 ⟨rfl,hb1⟩))
 clear kp;have hp1:=qf.made w1 [.int .i64 ((kk:Nat):Int),.int .i64 ((nn:Nat):Int),.int .i64 ((cc:Nat):Int)] 24;have Ic:=(bl.trans (rJ.of hb1) bl.size').trans (rJ.of ((aA w1.heap.size w1).alloc (ak _) (.cells #[.int .i64 ((kk:Nat):Int),.int .i64 ((nn:Nat):Int),.int .i64 ((cc:Nat):Int)] 24))) (aK bl.size' hb1.size);clear hb1 bl;change qf (w1.alloc (.cells #[.int .i64 ((kk:Nat):Int),.int .i64 ((nn:Nat):Int),.int .i64 ((cc:Nat):Int)] 24)) _ _ _ at hp1;generalize w1.alloc (.cells #[.int .i64 ((kk:Nat):Int),.int .i64 ((nn:Nat):Int),.int .i64 ((cc:Nat):Int)] 24)=w2 at hp1 Ic⊢;generalize w1.heap.size=pb at hp1 Ic⊢;refine qL qM rM ag rfl QQ λR hR τ d'=>?_
 replace Ic:=Ic.tp τ d';replace hp1:qf ({w2 with tape:=τ,drawn:=d'}:World) pb [.int .i64 ((kk:Nat):Int),.int .i64 ((nn:Nat):Int),.int .i64 ((cc:Nat):Int)] 24:=hp1;generalize({w2 with tape:=τ,drawn:=d'}:World)=w2 at Ic hp1⊢;have ka:=Yp vr zr w2 (hr.bel Ic (ak _)) hlr;simp only[qG,qo,uy,Tryz.f3,aB]
 go_wp2_with(first|(go_at_call 7;(with_reducible refine ka.mono ?_);rintro r w3 ⟨vb,m,f,Dt,rfl,hm,hA⟩))
 clear ka;exact hnext _ m f Dt pb vb w3 ⟨_,N9 rfl⟩ ⟨hp1.later (S:=λ_=>False) (.of_below hA.bel) hp1.lt id,⟨_,hA.own⟩,hA.nm,hA.len,hA.dat,hm⟩ (Ic.trans (rJ.of hA.bel) Ic.size')
variable {K N C m:Nat}{f:Nat->qQ}{Dt:Nat->List UInt8}{pb:Nat}{vb va x4 x5:Value}
theorem ahO(rM:uo X D){T:Array Value}(hT:TN1 x4 x5 pb vb T)(hS:XB K N C m f Dt pb vb w)
  (hnext:∀T',TN1 x4 x5 pb vb T'->sK Tryz.prog X Y D Stop 8 [frN T'] [.code wG] ⟨#[vb,.agg #[.int .i64 ((K:Nat):Int),.int .i64 ((N:Nat):Int),.int .i64 ((C:Nat):Int)]]++Array.replicate 26 undef,[]⟩ w):
  sK Tryz.prog X Y D Stop 3 [] [.code Yn] ⟨T,[]⟩ w:=by
 obtain⟨g,rfl⟩:=hT;unfold Tn;have c0:=hS.par.cell (i:=0) rfl;have c1:=hS.par.cell (i:=1) rfl;have c2:=hS.par.cell (i:=2) rfl;rw[akm];refine uH rM rfl (zW rM ?_);rw[agk];simp only[List.range,List.range.loop];refine qm qM rM vb iV rfl ag (λz _=>aI) ?_;walk_nrm
 refine qm qM rM (.agg #[.int .i64 ((K:Nat):Int),.int .i64 ((N:Nat):Int),.int .i64 ((C:Nat):Int)]) iV rfl ag (λz hz=>by
  have e:∀a,z.cell? a=w.cell? a:=λa=>aob
  rw[<-e]at c0 c1 c2;go_simp) ?_
 walk_nrm;refine uZ rM iV rfl ax Tryz.func8 ag (c:=wG) ag (vs:=#[vb,.agg #[.int .i64 ((K:Nat):Int),.int .i64 ((N:Nat):Int),.int .i64 ((C:Nat):Int)]]) (n:=26) fC ag ?_;unfold frN at hnext;exact aqI
theorem aj3(rM:uo X D){T:Array Value}(hT:TN1 x4 x5 pb vb T)
  (hnext:∀T',TN2 x4 x5 pb vb va T'->qR Tryz.prog X Y D Stop none [] 3 [] [.code Q4] T' w):
  ∀z,qH X Y z w->ru Tryz.prog D Stop (G ((frN T).finish (.tuple #[va,.int .i64 0])) []) z:=by
 rw[show frN T=Dn none [] 3 T (.inRegion aP3 [2,3,4,5,6,7]::[.code Q4])from rfl];rw[uD iV];show qR _ _ _ _ _ _ _ _ _ _ _ _;obtain⟨g,rfl⟩:=hT;unfold Tn;walk_nrm;refine qm qM rM (.tuple #[va,.int .i64 0]) iV rfl ag (λz _=>aI) ?_;walk_nrm;refine qm qM rM (va) iV rfl ag (λz _=>aI) ?_;walk_nrm;refine qm qM rM (.int .i64 0) iV rfl ag (λz _=>aI) ?_;walk_nrm;refine qm qM rM (va) iV rfl ag (λz _=>aI) ?_;walk_nrm;refine qm qM rM (.int .i64 0) iV rfl ag (λz _=>aI) ?_;walk_nrm;exact aqU
theorem ahR(rM:uo X D){T:Array Value}{ct:Nat}{vs:Value}(hT:TN3 pb vb ct vs T)
  (hnext:∀T',TN3 pb vb ct vs T'->qR Tryz.prog X Y D Stop none [] 11 [ahQ T'] [.code uY] (#[vs]++Array.replicate 55 undef) w):
  qR Tryz.prog X Y D Stop none [] 3 [] [.code QO] T w:=by
 obtain⟨g,rfl⟩:=hT;unfold Tn;rw[ah5];refine qw rM (yI rM ?_);rw[ac7];simp only[List.range,List.range.loop];refine qm qM rM (vs) iE rfl ag (λz _=>aI) ?_;walk_nrm;refine uZ rM iE rfl ax Tryz.func11 ag (c:=uY) ag (vs:=#[vs]) (n:=55) fC ag ?_;exact aqI
theorem afH(rM:uo X D){T:Array Value}{ct:Nat}{vs y1 y2 y3:Value}(hT:TN3 pb vb ct vs T)
  (hnext:∀T',TN4 pb vb ct vs y1 y2 y3 T'->qR Tryz.prog X Y D Stop none [] 3 [] [.code OC] T' w):
  ∀z,qH X Y z w->ru Tryz.prog D Stop (G ((ahQ T).finish (.tuple #[y1,y2,y3])) []) z:=by
 rw[show ahQ T=Dn none [] 3 T (.inRegion K_ [1,2,3,4,5,6,7,8]::[.code OC])from rfl];rw[uD iE];show qR _ _ _ _ _ _ _ _ _ _ _ _;obtain⟨g,rfl⟩:=hT;unfold Tn;walk_nrm;refine qm qM rM (.tuple #[y1,y2,y3]) iE rfl ag (λz _=>aI) ?_;walk_nrm;refine qm qM rM (y1) iE rfl ag (λz _=>aI) ?_;walk_nrm;refine qm qM rM (y2) iE rfl ag (λz _=>aI) ?_;walk_nrm;refine qm qM rM (y3) iE rfl ag (λz _=>aI) ?_;walk_nrm;refine qm qM rM (y1) iE rfl ag (λz _=>aI) ?_;walk_nrm;refine qm qM rM (y2) iE rfl ag (λz _=>aI) ?_;walk_nrm;refine qm qM rM (y3) iE rfl ag (λz _=>aI) ?_;walk_nrm;exact aqU
theorem ahT(rM:uo X D){T:Array Value}{ct b o cp:Nat}{y1 y2 y3:Value}(hT:TN4 pb vb ct (.slice (some ⟨b,o,none⟩) ct cp) y1 y2 y3 T)(hS:XB K N C m f Dt pb vb w)(hK:1<=K)(hct:K<=ct)(hcp:ct<=cp)(hKb:K<=128)
  (hnext:∀T',TN4 pb vb ct (.slice (some ⟨b,o,none⟩) ct cp) y1 y2 y3 T'->qR Tryz.prog X Y D Stop none [] 11 [ahS T'] [.code uY] (#[.slice (some ⟨b,o,none⟩) (K-1) cp]++Array.replicate 55 undef) w):
  qR Tryz.prog X Y D Stop none [] 3 [] [.code OC] T w:=by
 obtain⟨g,rfl⟩:=hT;unfold Tn;have c0:=hS.par.cell (i:=0) rfl;have e1:(K:Int)-1=((K-1:Nat):Int):=ae;have h1:((K-1:Nat):Int)<=((cp:Nat):Int):=ae;have h2:((K-1:Nat):Int)<=((ct:Nat):Int):=ae;rw[ah6];refine qw rM (yI rM ?_);rw[ac8];simp only[List.range,List.range.loop];refine qm qM rM (.slice (some ⟨b,o,none⟩) ct cp) fB rfl ag (λz _=>aI) ?_;walk_nrm;refine qm qM rM (.pointer (some ⟨pb,0,none⟩)) fB rfl ag (λz _=>aI) ?_;walk_nrm
 refine qm qM rM (.int .i64 ((K:Nat):Int)) fB rfl ag (λz hz=>by
  have e:∀a,z.cell? a=w.cell? a:=λa=>aob
  rw[<-e]at c0;go_simp) ?_
 walk_nrm;refine qm qM rM (.int .i64 ((K-1:Nat):Int)) fB rfl ag (λz _=>by go_simp;rw[dR];omega) ?_;walk_nrm;clear e1;refine qm qM rM (.slice (some ⟨b,o,none⟩) (K-1) cp) fB rfl ag (λz _=>by generalize K-1=k1 at*;go_simp) ?_;walk_nrm;refine uZ rM fB rfl ax Tryz.func11 ag (c:=uY) ag (vs:=#[.slice (some ⟨b,o,none⟩) (K-1) cp]) (n:=55) fC ag ?_;exact aqI
theorem afI(rM:uo X D){T:Array Value}{ct:Nat}{vs y1 y2 y3 z1 z2 z3:Value}(hT:TN4 pb vb ct vs y1 y2 y3 T)
  (hnext:∀T',TN5 pb vb ct y1 y2 y3 z1 z2 z3 T'->qR Tryz.prog X Y D Stop none [] 3 [] [.code OD] T' w):
  ∀z,qH X Y z w->ru Tryz.prog D Stop (G ((ahS T).finish (.tuple #[z1,z2,z3])) []) z:=by
 rw[show ahS T=Dn none [] 3 T (.inRegion Fv [5,6,7,8,9,10,11,12]::[.code OD])from rfl];rw[uD fB];show qR _ _ _ _ _ _ _ _ _ _ _ _;obtain⟨g,rfl⟩:=hT;unfold Tn;walk_nrm;refine qm qM rM (.tuple #[z1,z2,z3]) fB rfl ag (λz _=>aI) ?_;walk_nrm;refine qm qM rM (z1) fB rfl ag (λz _=>aI) ?_;walk_nrm;refine qm qM rM (z2) fB rfl ag (λz _=>aI) ?_;walk_nrm;refine qm qM rM (z3) fB rfl ag (λz _=>aI) ?_;walk_nrm;refine qm qM rM (z1) fB rfl ag (λz _=>aI) ?_;walk_nrm;refine qm qM rM (z2) fB rfl ag (λz _=>aI) ?_;walk_nrm;refine qm qM rM (z3) fB rfl ag (λz _=>aI) ?_;walk_nrm;exact aqU
end
theorem akn:Q4=.seq (qG Q4) (.seq (qG (qo Q4)) (.seq (qG (qo (qo Q4))) (.seq (qG (qo (qo (qo Q4)))) (.seq (qG (qo (qo (qo (qo Q4))))) QO)))):=ag
theorem Tryz.ah7:(Tryz.prog.info? 34).map (λi=>(i.zero,i.size,i.bytes))=some (some (.slice none 0 0),1,24):=ag
theorem aay{w:World}{B n:Nat}{v:Value}{xs:List Value}{t:TypeId}(h:w.ownsRow B t 1 v n xs):Jy v n:=by
 rcases h.2 with⟨h1,h0⟩|⟨g,cap,cur,h1,_,_,h4,_⟩
 .exact .inl ⟨h1,h0⟩
 .exact .inr ⟨g,0,cap,h1,h4⟩
theorem ah8{w:World}{B n:Nat}{v:Value}{xs:List Value}{t:TypeId}(h:w.ownsRow B t 1 v n xs):v.oneCell'=true:=(Lies.owned h).one
section
variable {X:Nat->Prop}{Y:Nat->Option Obj}{D:Nat->World->Array Event->Prop}{Stop:Goroutine->World->Prop}{w:World}
variable {K N C m:Nat}{f:Nat->qQ}{Dt:Nat->List UInt8}{pb bh:Nat}{vb vo:Value}{z5:Int}{zo:List Int}{ov:Nat->Value}{Bs:Nat->List UInt8}{T:Array Value}
structure SoI(w:World)(N i:Nat)(xs:List Nat)(ov:Nat->Value)(v:Value)(wr:World):Prop where
 own:wr.ownsRow w.heap.size 34 1 v i ((List.range i).map λj=>ov (xs.getD j 0))
 bel:rJ w.heap.size w wr
theorem aj6(rM:uo X D)(hT:TN2 vo (.int .i64 z5) pb vb (.slice (some ⟨bh,0,none⟩) N N) T)(hS:XB K N C m f Dt pb vb w)(hz:Ints w vo zo)(hlz:zo.length<9223372036854775807)(h5:In64 z5)(hK:1<=K)(hKN:K<=N)(hN:N<=12)
  (hcell:∀i,i<N->w.cell? ⟨bh,i,none⟩=some (ov i)) (hown:∀i,i<N->OwnB 0 w (ov i) (Bs i)) (hlen:∀i,i<N->(Bs i).length<=4611686018427387904)
  (hnext:∀(T':Array Value)(xs:List Nat)(ct b cp:Nat)(w':World),TN3 pb vb ct (.slice (some ⟨b,0,none⟩) ct cp) T'->Once N xs->K<=ct->ct<=N->ct<=cp->rJ w.heap.size w w'->SlB w' (some ⟨b,0,none⟩) ct (λi=>Bs (xs.getD i 0)) (λi=>ov (xs.getD i 0))->
   qR Tryz.prog X Y D Stop none [] 3 [] [.code QO] T' w'):
  qR Tryz.prog X Y D Stop none [] 3 [] [.code Q4] T w:=by
 obtain⟨g,rfl⟩:=hT;unfold Tn;rw[akn];refine qw rM (rG qM rM ag QQ λR hR τ d=>?_);have c1:({w with tape:=τ,drawn:=d}:World).cell? ⟨pb,1,none⟩=some (.int .i64 (N:Int)):=hS.par.cell (i:=1) rfl;have bl:rJ w.heap.size w {w with tape:=τ,drawn:=d}:=(rJ.refl _ w).tp τ d;generalize({w with tape:=τ,drawn:=d}:World)=wA at bl c1⊢;simp only[Q4,Yn,qG,qo,uy,Tryz.f3,aB];go_wp2;refine qw rM (rG qM rM ag QQ λR hR τ d=>?_);replace c1:({wA with tape:=τ,drawn:=d}:World).cell? ⟨pb,1,none⟩=some (.int .i64 (N:Int)):=c1;replace bl:=bl.tp τ d;generalize({wA with tape:=τ,drawn:=d}:World)=wB at bl c1⊢;have kc:=aaz N vo zo ae hN wB (hz.bel bl (ak _)) hlz;simp only[Q4,Yn,qG,qo,uy,Tryz.f3,aB]
 go_wp2_with(first|(go_at_call 9;(with_reducible refine kc.mono ?_);rintro r w1 ⟨vl,xs,rfl,hO,ho1,hb1⟩;obtain⟨pl,cl,rfl⟩:=sW ho1))
 clear kc c1;replace bl:=bl.trans (rJ.of hb1) bl.size';have hwb:=hb1.size;replace ho1:=Lies.owned ho1;clear hb1;refine qw rM (rG qM rM ag QQ λR hR τ d=>?_);replace bl:=bl.tp τ d;replace ho1:Lies ({w1 with tape:=τ,drawn:=d}:World) (.slice pl N cl) (Ih xs):=ho1;generalize({w1 with tape:=τ,drawn:=d}:World)=w2 at bl ho1⊢;have hp2:=(tK bl).row hS.par;have c0:=hp2.cell (i:=0) rfl;have c1:=hp2.cell (i:=1) rfl;have kp:∀nq,Calls Tryz.prog 10 #[.int .i64 z5,.int .i64 ((N:Int)-(K:Int)+1)] (w2.drewN nq) λr w'=>r=.returned (.int .i64 ((x9 z5 (N-K+1):Nat):Int))/\w'=w2.drewN nq:=λnq=>pick_any z5 (N-K+1) ((N:Int)-(K:Int)+1) ae h5.1 h5.2 ae ae (w2.drewN nq)
 have hpk:x9 z5 (N-K+1)<N-K+1:=x_ z5 ae;obtain⟨pk,epk⟩:∃p,x9 z5 (N-K+1)=p:=⟨_,rfl⟩;rw[epk]at kp hpk;clear epk hp2;simp only[Q4,Yn,qG,qo,uy,Tryz.f3,aB];have e1:IntKind.i64.wrap ((N:Int)-(K:Int))=(N:Int)-(K:Int):=fD;have e2:IntKind.i64.wrap ((N:Int)-(K:Int)+1)=(N:Int)-(K:Int)+1:=fD;have e3:IntKind.i64.wrap ((K:Int)+(pk:Int))=(K:Int)+(pk:Int):=fD
 go_quiet ((go_at_call 10;exact Calls.quiet_of_same (kp _)))
 clear kp e1 e2 e3 c0 c1;refine⟨rfl,rfl,hR _ _ ?_⟩;rw[show((K:Int)+(pk:Int))=((K+pk:Nat):Int)by omega];have hc1:K<=K+pk:=ae;have hc2:K+pk<=N:=ae;generalize K+pk=ct at hc1 hc2⊢;have Q3:rJ w.heap.size w (w2.drewN nq):=bl.trans (rJ.of (below_drewN (aA _ _) nq)) bl.size';have ho3:=ho1.drewN nq;generalize w2.drewN nq=w3 at Q3 ho3⊢;clear bl ho1;refine qw rM (rG qM rM ag QQ λR hR τ d=>?_);replace Q3:=Q3.tp τ d;replace ho3:Lies ({w3 with tape:=τ,drawn:=d}:World) (.slice pl N cl) (Ih xs):=ho3;generalize({w3 with tape:=τ,drawn:=d}:World)=w4 at Q3 ho3⊢;simp only[Q4,Yn,qG,qo,uy,Tryz.f3,aB];go_wp2;refine qw rM (rG qM rM ag QQ λR hR τ d=>?_);replace Q3:=Q3.tp τ d;replace ho3:Lies ({w4 with tape:=τ,drawn:=d}:World) (.slice pl N cl) (Ih xs):=ho3;generalize({w4 with tape:=τ,drawn:=d}:World)=w5 at Q3 ho3⊢;simp only[Q4,Yn,qG,qo,uy,Tryz.f3,aB]
 have hxl:∀i,i<N->xs[i]?=some (xs.getD i 0)/\xs.getD i 0<N:=λi hi=>by
  have h1:xs[i]?=some (xs.getD i 0):=by have:=hO.len;rw[aO,aY ae];rfl
  exact⟨h1,hO.lt i _ h1⟩
 obtain⟨i0,hi0,hz0,hz1,hz2⟩:=bg Tryz.ah7;go_wp2
 go_loopw [19,20] (λv19 v20 wr=>∃i:Nat,i<=ct/\v20=.int .i64 (i:Int)/\SoI w5 N i xs ov v19 wr) (λ_ v20 _=>ct-(intOf v20).toNat)
 case atStart=>exact⟨0,ae,rfl,bT _ _ _ _,rJ.refl _ _⟩
 case round=>
  obtain⟨i,hi,rfl,hI⟩:=hrel;by_cases hlt:i<ct
  .have hlt':(i:Int)<(ct:Int):=ae;have anB:(i:Int)<(N:Int):=ae;obtain⟨hx1,hx2⟩:=hxl i ae;have hx3:((xs.getD i 0:Nat):Int)<(N:Int):=ae;have hs5:=tK hI.bel;obtain⟨b1,o1,rfl,n1⟩:=(hs5.lies ho3).get (j:=i) (u:=.int .i64 ((xs.getD i 0:Nat):Int)) (by rw[Ih,bQ,hx1];rfl);have n2:=hs5.cell ((tK Q3).cell (hcell _ hx2));obtain⟨bq,cq,ev⟩:=(Lies.owned (hown _ hx2)).len
   have hone:∀u∈[ov (xs.getD i 0)],u.oneCell'=true:=λu hu=>by rw[dV]at hu;subst hu;exact ah8 (hown _ hx2)
   obtain⟨bt,ct',rfl⟩:=sW hI.own;have hsz5:=hI.bel.size';have hcn:∀j u,[ov (xs.getD i 0)][j]?=some u->(wr.alloc (.cells #[ov (xs.getD i 0)] 34)).cell? ((⟨wr.heap.size,0,none⟩:Addr).add j)=some u:=D_ wr [ov (xs.getD i 0)] 34;generalize hv:ov (xs.getD i 0)=vv at*;subst ev;generalize hxx:xs.getD i 0=x at*
   go_wp2_with(at_builtin;refine dF _ rfl _ _ 28 rfl w5.heap.size 34 i0 (.slice none 0 0) 1 24 Tryz.underlying28 hi0 hz0 hz1 hz2 rfl au _ _ _ rfl (hI.own.alloc _) ⟨wr.heap.size,0,none⟩ 1 1 [.slice bq (rF (Bs x)).length cq] rfl rfl hcn hone bH ae az ?_;intro v' w6 hown6 hgrow _;obtain⟨gq,cz,rfl,_,_⟩:=hown6.form ae)
   have b6:Below w5.heap.size wr w6:=(((aA _ wr).alloc (ak _) _).mono hsz5).grown hgrow az (λk hk=>(hI.own.lt k hk).1);refine⟨⟨i+1,ae,ai,?_,hI.bel.trans (rJ.of b6) (ak _)⟩,iW⟩;rw[dm,iC,fH,jd,hxx,hv];exact hown6
  .obtain rfl:i=ct:=ae;have hnl:¬((i:Int)<(i:Int)):=ae;have hs5:=tK hI.bel;obtain⟨gq,cz,hform,_,_⟩:=hI.own.form ae;subst hform
   have hcz:i<=cz:=by
    rcases hI.own.2 with⟨h1,_⟩|⟨g',c',cur,h1,_,_,h4,_⟩
    .cases h1
    .cases h1;exact h4
   have hSl:SlB wr (some ⟨gq,0,none⟩) i (λj=>Bs (xs.getD j 0)) (λj=>ov (xs.getD j 0)):=by
    refine⟨λ_=>⟨gq,0,rfl,λj hj=>?_⟩,λj hj=>?_⟩
    .rw[aS,hI.own.cellAt j ae];simp[hj]
    .obtain⟨_,hx2⟩:=hxl j ae;exact⟨hs5.lies ((tK Q3).lies (Lies.owned (hown _ hx2))),aay (hown _ hx2),hlen _ hx2⟩
   go_wp2;exact hnext _ xs i gq cz wr ⟨_,N9 rfl⟩ hO hc1 hc2 hcz (Q3.trans hI.bel Q3.size') hSl
end
theorem ah9:OD=.seq (qG OD) (.seq (qG (qo OD)) (.seq (qG (qo (qo OD))) .ret)):=ag
section
variable {X:Nat->Prop}{Y:Nat->Option Obj}{D:Nat->World->Array Event->Prop}{Stop:Goroutine->World->Prop}{w:World}
variable {K N C m:Nat}{f:Nat->qQ}{Dt:Nat->List UInt8}{pb:Nat}{bo:Option Addr}{cap ct gb gv gw cw:Nat}{T:Array Value}{ns Da:Nat->List UInt8}{vd va:Nat->Value}
theorem aj7(rM:uo X D)(hT:TN5 pb (.slice bo m cap) ct (.slice (some ⟨gb,0,none⟩) m m) (.slice (some ⟨gv,0,none⟩) ct ct) (.int .i64 0) (.slice none 0 0) (.slice (some ⟨gw,0,none⟩) (K-1) (K-1)) (.int .i64 12) T)(amL:qf w pb [.int .i64 ((K:Nat):Int),.int .i64 ((N:Nat):Int),.int .i64 ((C:Nat):Int)] 24)(hK:1<=K)(hm:m<=1048576)(hct:ct<=128)(hKb:K<=128)
  (aiR:∀i,i<ct->w.cell? ⟨gv,i,none⟩=some (.int .i64 0)) (h1:BlS w (some ⟨gb,0,none⟩) m ns Da vd) (h2:BlS w bo m ns Da va)
  (hfin:∀(T':Array Value)(kk:List Item)(w':World),T'.getD 12 undef=.bool true->rJ w.heap.size w w'->qR Tryz.prog X Y D Stop none [] 3 [] (.code .ret::kk) T' w'):
  qR Tryz.prog X Y D Stop none [] 3 [] [.code OD] T w:=by
 obtain⟨g,rfl⟩:=hT;unfold Tn;have c0:=amL.cell (i:=0) rfl;rw[ah9];have e1:IntKind.i64.wrap ((K:Int)-1)=((K-1:Nat):Int):=fD;refine qw rM (rG qM rM ag QQ λR hR τ d=>?_);have bl:rJ w.heap.size w {w with tape:=τ,drawn:=d}:=(rJ.refl _ w).tp τ d;replace c0:({w with tape:=τ,drawn:=d}:World).cell? ⟨pb,0,none⟩=some (.int .i64 (K:Int)):=c0;generalize({w with tape:=τ,drawn:=d}:World)=wA at bl c0⊢;simp only[OD,OC,QO,Q4,Yn,qG,qo,uy,Tryz.f3,aB];generalize K-1=k1 at*;go_wp2;clear e1 c0;refine qw rM (rG qM rM ag QQ λR hR τ d=>?_);replace bl:=bl.tp τ d;generalize({wA with tape:=τ,drawn:=d}:World)=wB at bl⊢;simp only[OD,OC,QO,Q4,Yn,qG,qo,uy,Tryz.f3,aB];have hv2:=λi hi=>(tK bl).cell (aiR i hi)
 go_wp2
 go_loopw [27] (λvi wr=>∃i:Nat,i<=ct/\vi=.int .i64 (i:Int)/\wr=wB) (λvi _=>ct-(intOf vi).toNat)
 case atStart=>exact⟨0,ae,rfl,rfl⟩
 case round=>
  obtain⟨i,hi,rfl,rfl⟩:=hrel;by_cases hlt:i<ct
  .have hlt':(i:Int)<(ct:Int):=ae;have c2:=hv2 i hlt;go_wp2;exact⟨⟨i+1,ae,ai,trivial⟩,iW⟩
  .obtain rfl:i=ct:=ae;have hnl:¬((i:Int)<(i:Int)):=ae;go_wp2;refine qw rM (rG qM rM ag QQ λR hR τ d=>?_);replace bl:=bl.tp τ d;generalize({wr with tape:=τ,drawn:=d}:World)=wD at bl⊢;have hs:=tK bl
   have g1:BlS wD (some ⟨gb,0,none⟩) m ns Da vd:=⟨λh=>by obtain⟨b,o,e,hc⟩:=h1.cells h;exact⟨b,o,e,λi hi=>⟨hs.cell (hc i hi).1,hs.cell (hc i hi).2⟩⟩,λi hi=>hs.lies (h1.dat i hi)⟩
   have g2:BlS wD bo m ns Da va:=⟨λh=>by obtain⟨b,o,e,hc⟩:=h2.cells h;exact⟨b,o,e,λi hi=>⟨hs.cell (hc i hi).1,hs.cell (hc i hi).2⟩⟩,λi hi=>hs.lies (h2.dat i hi)⟩
   have kb:=Q5 m m cap (some ⟨gb,0,none⟩) bo ns Da vd va wD hm g1 g2;simp only[OD,OC,QO,Q4,Yn,qG,qo,uy,Tryz.f3,aB]
   go_wp2_with(first|(go_at_call 12;(with_reducible refine kb.mono ?_);rintro r w9 ⟨rfl,q,hw9⟩))
   refine hfin _ _ _ ?_ (bl.trans (rJ.of (below_drewN (aA _ _) q)) bl.size');rfl
end
section
variable {X:Nat->Prop}{Y:Nat->Option Obj}{D:Nat->World->Array Event->Prop}{Stop:Goroutine->World->Prop}{w:World}{h0 K N C m:Nat}{f:Nat->qQ}{Dt:Nat->List UInt8}{xs:List Nat}{pb:Nat}{vb vt va:Value}
structure ShI(N bh:Nat)(L:Nat->List UInt8)(w:World):Prop where
 at_:∀i,i<N->∃v,w.cell? ⟨bh,i,none⟩=some v/\Va w v (L i)
end
end Go.Proofs.Y
namespace Go.Proofs.Y
open Go.RowKit Go.Deep Go.Lf Go.Conc Go.ConcN Go.Gh Go.Hp
open Go.ConcR (Payload WgAt wgBlock)
structure Kz(h0:Nat)(w w':World):Prop where
 os:w'.os=w.os
 output:w'.output=w.output
 size:w.heap.size<=w'.heap.size
 block:∀b,b<h0->w'.heap[b]?=w.heap[b]?
theorem Kz.trans{h0:Nat}{a b c:World}(h:Kz h0 a b)(h':Kz h0 b c):Kz h0 a c:=⟨h'.os.trans h.os,h'.output.trans h.output,aK h.size h'.size,λx hx=>(h'.block x hx).trans (h.block x hx)⟩
theorem Vj{h0:Nat}{X:Nat->Prop}{Y:Nat->Option Obj}{W W' v v':World}(hs:qH X Y W v)(hs':qH X Y W' v')(hb:rJ h0 v v')(hX:∀b,X b->h0<=b):Kz h0 W W':=by obtain⟨τ,d,h⟩:=hs;obtain⟨τ',d',h'⟩:=hs';refine⟨h'.os.trans (Eq.trans (show v'.os=v.os from hb.os) h.os.symm),h'.out.trans (Eq.trans (show v'.output=v.output from hb.output) h.out.symm),?_,λb hlt=>vY.agree h h' (λhx=>by have:=hX b hx;omega) (hb.blk hlt)⟩;have e1:W.heap.size=v.heap.size:=h.size;have e2:W'.heap.size=v'.heap.size:=h'.size;have:=hb.size';omega
theorem KpX.kz{h0:Nat}{X:Nat->Prop}{W W':World}(h:KpX X W W')(hX:∀b,X b->h0<=b)(hW:h0<=W.heap.size):Kz h0 W W':=⟨h.os,h.output,h.size,λb hb=>h.block b ae (λhx=>by have:=hX b hx;omega)⟩
theorem Ints.sub{w w':World}{v:Value}{zs:List Int}(h:Ints w v zs)(hs:Sub w w'):Ints w' v zs:=by
 refine⟨h.aaA,?_⟩;rcases h.lies with h1|⟨b,off,cap,h1,h2,h3⟩
 .exact .inl h1
 .exact .inr ⟨b,off,cap,h1,aN h2 hs.1,λj z hz=>hs.cell (h3 j z hz)⟩
def AtE(X:Nat->Prop)(Y:Nat->Option Obj)(K N C:Nat)(vs:Value)(fr:Frame)(v:World)(gr:Goroutine)(W:World):Prop:=
 gr=G ((base 8).at ⟨#[vs,.agg #[.int .i64 ((K:Nat):Int),.int .i64 ((N:Nat):Int),.int .i64 ((C:Nat):Int)]]++Array.replicate 26 undef,[]⟩ [.code wG]) [fr]/\qH X Y W v
