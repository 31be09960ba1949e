import Derived.Test.YtnbflnamlpodcaaGreatDoorDmB
set_option maxHeartbeats 8000000
set_option maxRecDepth 100000
namespace Go.Proofs.Y
open Go.Proofs.Tryz
open Go.RowKit Go.Deep Go.Lf Go.Conc Go.Hp
section
variable {X:Nat->Prop}{Y:Nat->aV}{D:Nat->ah->aH->Prop}{Stop:aG->ah->Prop}{w:ah}
variable {K N C m:Nat}{f:Nat->qX}{Dt:Nat->ak}{pb:Nat}{vb va x4 x5 x6:ai}
end
theorem amZ{w:ah}{b L:Nat}{l:ak}(h:w.rowIs b 5 L (λj=>.int .u8 ((tZ l j:Nat):Int)))(hl:l.length=L)(hm:L<=maxLen):rO 0 w (.slice (some ⟨b,0,none⟩) L L) l:=by
 subst hl;obtain⟨c,h1,h2,h3⟩:=h;refine⟨eX,.inr ⟨b,_,c,rfl,gY _,h1,az _,hm,ag,?_⟩⟩;rw[je,jg aS];apply jk;intro j;rw[pV];by_cases hj:j<l.length
 .rw[h3 j hj,wJ hj]
 .rw[kW ag,g_ (by simp[sJ];omega)]
theorem amX{b:Nat}(hb:b<9223372036854775808)(i:Nat):bits .and .i64 ((b:Int)/2^i) 1=((b/2^i%2:Nat):Int):=by
 have h:b/2^i<9223372036854775808:=jw (Nat.div_le_self _ _) hb;have e:((b:Int)/2^i)=((b/2^i:Nat):Int):=ax;rw[e];generalize b/2^i=t at h;have h1:(BitVec.ofInt 64 (t:Int)).toNat=t:=by rw[av8,pR];exact cu ag
 show IntKind.i64.wrap ((BitVec.ofInt 64 (t:Int)&&&BitVec.ofInt 64 1).toNat:Int)=_;rw[BitVec.toNat_and,h1,show(BitVec.ofInt 64 1).toNat=1 from rfl,Nat.and_one_is_mod,fO];omega
section
variable {X:Nat->Prop}{Y:Nat->aV}{D:Nat->ah->aH->Prop}{Stop:aG->ah->Prop}{w:ah}
variable {K N C m:Nat}{f:Nat->qX}{Dt:Nat->ak}{pb bh:Nat}{vb v5 v6:ai}{z4:Int}{z5 z6:di}{ov:Nat->ai}{Bs:Nat->ak}{T:aB}
end
noncomputable def uj:Code:=Tryz.f5.body.getD .skip
noncomputable def Qg:Code:=qA (qA (qA uj))
noncomputable def Dc:Code:=qA (qA Qg)
noncomputable def BR:Code:=qA Dc
noncomputable def Ag:Code:=qA BR
noncomputable def Jc:Code:=qA (qA (qA (qA (qA (qA Ag)))))
noncomputable def FD:Code:=qA Jc
noncomputable def Xk:Code:=qA (qA (qA (qA (qA FD))))
noncomputable def TP:Code:=qA Xk
noncomputable def Xl:{y:Array Oper//y=uq (qM Dc)}:=⟨_,by(simp only[Dc,Qg,uj,qM,qA,uq,Tryz.f5,aQ];rfl)⟩
noncomputable def QR:Array Oper:=Xl.1
theorem am6:Dc=.seq (.region 13 QR false) BR:=aj
theorem ag0:QR.size=8:=aj
noncomputable def Xm:{y:Array Oper//y=uq (qM BR)}:=⟨_,by(simp only[BR,Dc,Qg,uj,qM,qA,uq,Tryz.f5,aQ];rfl)⟩
noncomputable def QS:Array Oper:=Xm.1
theorem am7:BR=.seq (.region 14 QS false) Ag:=aj
theorem ag1:QS.size=8:=aj
noncomputable def Vt:{y:Array Oper//y=uq (qM Jc)}:=⟨_,by(simp only[Jc,Ag,BR,Dc,Qg,uj,qM,qA,uq,Tryz.f5,aQ];rfl)⟩
noncomputable def Pn:Array Oper:=Vt.1
theorem am8:Jc=.seq (.region 28 Pn false) FD:=aj
theorem ag2:Pn.size=9:=aj
noncomputable def Xn:{y:Array Oper//y=uq (qM Xk)}:=⟨_,by(simp only[Xk,FD,Jc,Ag,BR,Dc,Qg,uj,qM,qA,uq,Tryz.f5,aQ];rfl)⟩
noncomputable def QT:Array Oper:=Xn.1
theorem am9:Xk=.seq (.region 38 QT false) TP:=aj
theorem ag3:QT.size=8:=aj
theorem Gq:∃fn,prog.funcs[5]?=some fn:=⟨_,func5⟩
theorem agZ:uj=.seq (qM uj) (.seq (qM (qA uj)) (.seq (qM (qA (qA uj))) Qg)):=aj
def Xj(f:Nat->ai)(a4 a5 a13 a14 a15 a19 a20 a21 a22 a23 a24 a26 a27 a28 a29 a31 a32:ai):aB:=#[f 0,f 1,f 2,f 3,a4,a5,f 6,f 7,f 8,f 9,f 10,f 11,f 12,a13,a14,a15,f 16,f 17,f 18,a19,a20,a21,a22,a23,a24,f 25,a26,a27,a28,a29,f 30,a31,a32,f 33,f 34,f 35,f 36,f 37,f 38,f 39,f 40,f 41,f 42,f 43,f 44,f 45,f 46,f 47,f 48,f 49,f 50,f 51,f 52,f 53,f 54,f 55,f 56,f 57,f 58,f 59,f 60,f 61,f 62,f 63,f 64,f 65,f 66,f 67,f 68,f 69,f 70,f 71,f 72,f 73,f 74,f 75,f 76,f 77,f 78,f 79,f 80,f 81,f 82,f 83,f 84,f 85,f 86,f 87,f 88,f 89,f 90,f 91,f 92,f 93,f 94,f 95,f 96,f 97,f 98,f 99,f 100,f 101,f 102,f 103,f 104,f 105,f 106,f 107,f 108,f 109,f 110,f 111,f 112,f 113,f 114,f 115,f 116,f 117,f 118,f 119,f 120,f 121,f 122,f 123,f 124,f 125,f 126,f 127,f 128,f 129,f 130,f 131,f 132,f 133,f 134,f 135,f 136,f 137,f 138,f 139,f 140,f 141,f 142,f 143,f 144,f 145,f 146,f 147,f 148,f 149,f 150,f 151,f 152,f 153,f 154,f 155,f 156,f 157,f 158,f 159,f 160,f 161,f 162,f 163,f 164,f 165,f 166,f 167,f 168,f 169,f 170,f 171,f 172,f 173,f 174,f 175,f 176,f 177,f 178,f 179,f 180,f 181,f 182,f 183,f 184,f 185,f 186,f 187,f 188,f 189,f 190,f 191,f 192,f 193,f 194,f 195,f 196,f 197,f 198,f 199,f 200,f 201,f 202,f 203,f 204,f 205,f 206,f 207,f 208,f 209,f 210,f 211,f 212,f 213,f 214,f 215,f 216,f 217,f 218,f 219,f 220,f 221,f 222,f 223,f 224,f 225,f 226,f 227,f 228,f 229,f 230,f 231,f 232,f 233,f 234,f 235,f 236,f 237,f 238,f 239,f 240,f 241,f 242,f 243,f 244,f 245,f 246,f 247,f 248,f 249]
theorem Af{T:aB}(h:T=#[ae T 0,ae T 1,ae T 2,ae T 3,ae T 4,ae T 5,ae T 6,ae T 7,ae T 8,ae T 9,ae T 10,ae T 11,ae T 12,ae T 13,ae T 14,ae T 15,ae T 16,ae T 17,ae T 18,ae T 19,ae T 20,ae T 21,ae T 22,ae T 23,ae T 24,ae T 25,ae T 26,ae T 27,ae T 28,ae T 29,ae T 30,ae T 31,ae T 32,ae T 33,ae T 34,ae T 35,ae T 36,ae T 37,ae T 38,ae T 39,ae T 40,ae T 41,ae T 42,ae T 43,ae T 44,ae T 45,ae T 46,ae T 47,ae T 48,ae T 49,ae T 50,ae T 51,ae T 52,ae T 53,ae T 54,ae T 55,ae T 56,ae T 57,ae T 58,ae T 59,ae T 60,ae T 61,ae T 62,ae T 63,ae T 64,ae T 65,ae T 66,ae T 67,ae T 68,ae T 69,ae T 70,ae T 71,ae T 72,ae T 73,ae T 74,ae T 75,ae T 76,ae T 77,ae T 78,ae T 79,ae T 80,ae T 81,ae T 82,ae T 83,ae T 84,ae T 85,ae T 86,ae T 87,ae T 88,ae T 89,ae T 90,ae T 91,ae T 92,ae T 93,ae T 94,ae T 95,ae T 96,ae T 97,ae T 98,ae T 99,ae T 100,ae T 101,ae T 102,ae T 103,ae T 104,ae T 105,ae T 106,ae T 107,ae T 108,ae T 109,ae T 110,ae T 111,ae T 112,ae T 113,ae T 114,ae T 115,ae T 116,ae T 117,ae T 118,ae T 119,ae T 120,ae T 121,ae T 122,ae T 123,ae T 124,ae T 125,ae T 126,ae T 127,ae T 128,ae T 129,ae T 130,ae T 131,ae T 132,ae T 133,ae T 134,ae T 135,ae T 136,ae T 137,ae T 138,ae T 139,ae T 140,ae T 141,ae T 142,ae T 143,ae T 144,ae T 145,ae T 146,ae T 147,ae T 148,ae T 149,ae T 150,ae T 151,ae T 152,ae T 153,ae T 154,ae T 155,ae T 156,ae T 157,ae T 158,ae T 159,ae T 160,ae T 161,ae T 162,ae T 163,ae T 164,ae T 165,ae T 166,ae T 167,ae T 168,ae T 169,ae T 170,ae T 171,ae T 172,ae T 173,ae T 174,ae T 175,ae T 176,ae T 177,ae T 178,ae T 179,ae T 180,ae T 181,ae T 182,ae T 183,ae T 184,ae T 185,ae T 186,ae T 187,ae T 188,ae T 189,ae T 190,ae T 191,ae T 192,ae T 193,ae T 194,ae T 195,ae T 196,ae T 197,ae T 198,ae T 199,ae T 200,ae T 201,ae T 202,ae T 203,ae T 204,ae T 205,ae T 206,ae T 207,ae T 208,ae T 209,ae T 210,ae T 211,ae T 212,ae T 213,ae T 214,ae T 215,ae T 216,ae T 217,ae T 218,ae T 219,ae T 220,ae T 221,ae T 222,ae T 223,ae T 224,ae T 225,ae T 226,ae T 227,ae T 228,ae T 229,ae T 230,ae T 231,ae T 232,ae T 233,ae T 234,ae T 235,ae T 236,ae T 237,ae T 238,ae T 239,ae T 240,ae T 241,ae T 242,ae T 243,ae T 244,ae T 245,ae T 246,ae T 247,ae T 248,ae T 249]):T=Xj (λi=>T.getD i undef) (ae T 4) (ae T 5) (ae T 13) (ae T 14) (ae T 15) (ae T 19) (ae T 20) (ae T 21) (ae T 22) (ae T 23) (ae T 24) (ae T 26) (ae T 27) (ae T 28) (ae T 29) (ae T 31) (ae T 32):=h
def TH0(pb:Nat)(x4 x5 vb vo:ai)(T:aB):Prop:=∃f:Nat->ai,T=Xj f (x4) (x5) (.pointer (some ⟨pb,0,none⟩)) (vb) (vo) (f 19) (f 20) (f 21) (f 22) (f 23) (f 24) (f 26) (f 27) (f 28) (f 29) (f 31) (f 32)
def TH1(pb:Nat)(x4 x5 vb vo va:ai)(T:aB):Prop:=∃f:Nat->ai,T=Xj f (x4) (x5) (.pointer (some ⟨pb,0,none⟩)) (vb) (vo) (va) (.int .i64 0) (f 21) (f 22) (f 23) (f 24) (f 26) (f 27) (f 28) (f 29) (f 31) (f 32)
def TH2(pb:Nat)(x4 x5 vb va vc:ai)(T:aB):Prop:=∃f:Nat->ai,T=Xj f (x4) (x5) (.pointer (some ⟨pb,0,none⟩)) (vb) (f 15) (va) (.int .i64 0) (vc) (.int .i64 0) (f 23) (f 24) (f 26) (f 27) (f 28) (f 29) (f 31) (f 32)
def TH3(pb:Nat)(vb vm vs vx:ai)(T:aB):Prop:=∃f:Nat->ai,T=Xj f (f 4) (f 5) (.pointer (some ⟨pb,0,none⟩)) (vb) (f 15) (f 19) (f 20) (f 21) (f 22) (vm) (vs) (vx) (f 27) (f 28) (f 29) (f 31) (f 32)
def TH4(pb:Nat)(vb vm vs vx y1 y2 y3:ai)(T:aB):Prop:=∃f:Nat->ai,T=Xj f (f 4) (f 5) (.pointer (some ⟨pb,0,none⟩)) (vb) (f 15) (f 19) (f 20) (f 21) (f 22) (vm) (vs) (vx) (y1) (y2) (y3) (f 31) (f 32)
def TH5(pb:Nat)(vs y1 y2:ai)(T:aB):Prop:=∃f:Nat->ai,T=Xj f (f 4) (f 5) (.pointer (some ⟨pb,0,none⟩)) (f 14) (f 15) (f 19) (f 20) (f 21) (f 22) (f 23) (vs) (f 26) (y1) (y2) (f 29) (f 31) (f 32)
def TH6(pb:Nat)(vs y2 va:ai)(T:aB):Prop:=∃f:Nat->ai,T=Xj f (f 4) (f 5) (.pointer (some ⟨pb,0,none⟩)) (f 14) (f 15) (f 19) (f 20) (f 21) (f 22) (f 23) (vs) (f 26) (f 27) (y2) (f 29) (va) (.int .i64 0)
noncomputable def am_(T:aB):aJ:=(base 5).at ⟨T,[]⟩ (.inRegion QR [2,3,4,5,6,7]::[.code BR])
noncomputable def ana(T:aB):aJ:=(base 5).at ⟨T,[]⟩ (.inRegion QS [2,3,4,5,6,7]::[.code Ag])
noncomputable def anb(T:aB):aJ:=(base 5).at ⟨T,[]⟩ (.inRegion Pn [1,2,3,4,5,6,7,8]::[.code FD])
noncomputable def anc(T:aB):aJ:=(base 5).at ⟨T,[]⟩ (.inRegion QT [2,3,4,5,6,7]::[.code TP])
section
variable {X:Nat->Prop}{Y:Nat->aV}{D:Nat->ah->aH->Prop}{Stop:aG->ah->Prop}{w:ah}
variable {K N C pb:Nat}{x4 x5 vb vo va vc vm vs vx y1 y2 y3 ve:ai}
theorem ane(rM:uU X D){T:aB}(hT:TH0 pb x4 x5 vb vo T)(EX:ql w pb [.int .i64 ((K:Nat):Int),.int .i64 ((N:Nat):Int),.int .i64 ((C:Nat):Int)] 24)
  (qJ:∀T',TH0 pb x4 x5 vb vo T'->rC prog X Y D Stop none [] 8 [am_ T'] [.code vg] (#[vb,.agg #[.int .i64 ((K:Nat):Int),.int .i64 ((N:Nat):Int),.int .i64 ((C:Nat):Int)]]++Array.replicate 26 undef) w):
  rC prog X Y D Stop none [] 5 [] [.code Dc] T w:=by
 obtain⟨g,rfl⟩:=hT;unfold Xj;have c0:=EX.cell (i:=0) rfl;have c1:=EX.cell (i:=1) rfl;have c2:=EX.cell (i:=2) rfl;rw[am6];refine qy rM (xH rM ?_);rw[ag0];simp only[List.range,List.range.loop];refine qC qP rM vb jO rfl aj (λz _=>a_) ?_;walk_nrm
 refine qC qP rM (.agg #[.int .i64 ((K:Nat):Int),.int .i64 ((N:Nat):Int),.int .i64 ((C:Nat):Int)]) jO rfl aj (λz hz=>by
  have e:∀a,z.cell? a=w.cell? a:=λa=>Rz
  rw[<-e]at c0 c1 c2;go_simp) ?_
 walk_nrm;refine wo rM jO rfl aI func8 aj (c:=vg) aj (vs:=#[vb,.agg #[.int .i64 ((K:Nat):Int),.int .i64 ((N:Nat):Int),.int .i64 ((C:Nat):Int)]]) (n:=26) gI aj ?_;exact ayy
theorem aj7(rM:uU X D){T:aB}(hT:TH0 pb x4 x5 vb vo T)
  (qJ:∀T',TH1 pb x4 x5 vb vo ve T'->rC prog X Y D Stop none [] 5 [] [.code BR] T' w):
  ∀z,qQ X Y z w->r_ prog D Stop (G ((am_ T).finish (.tuple #[ve,.int .i64 0])) []) z:=by
 rw[show am_ T=Dn none [] 5 T (.inRegion QR [2,3,4,5,6,7]::[.code BR])from rfl];rw[vM jO];show rC _ _ _ _ _ _ _ _ _ _ _ _;obtain⟨g,rfl⟩:=hT;unfold Xj;walk_nrm;refine qC qP rM (.tuple #[ve,.int .i64 0]) jO rfl aj (λz _=>a_) ?_;walk_nrm;refine qC qP rM (ve) jO rfl aj (λz _=>a_) ?_;walk_nrm;refine qC qP rM (.int .i64 0) jO rfl aj (λz _=>a_) ?_;walk_nrm;refine qC qP rM (ve) jO rfl aj (λz _=>a_) ?_;walk_nrm;refine qC qP rM (.int .i64 0) jO rfl aj (λz _=>a_) ?_;walk_nrm;exact ayx
theorem anf(rM:uU X D){T:aB}(hT:TH1 pb x4 x5 vb vo va T)(EX:ql w pb [.int .i64 ((K:Nat):Int),.int .i64 ((N:Nat):Int),.int .i64 ((C:Nat):Int)] 24)
  (qJ:∀T',TH1 pb x4 x5 vb vo va T'->rC prog X Y D Stop none [] 8 [ana T'] [.code vg] (#[vo,.agg #[.int .i64 ((K:Nat):Int),.int .i64 ((N:Nat):Int),.int .i64 ((C:Nat):Int)]]++Array.replicate 26 undef) w):
  rC prog X Y D Stop none [] 5 [] [.code BR] T w:=by
 obtain⟨g,rfl⟩:=hT;unfold Xj;have c0:=EX.cell (i:=0) rfl;have c1:=EX.cell (i:=1) rfl;have c2:=EX.cell (i:=2) rfl;rw[am7];refine qy rM (xH rM ?_);rw[ag1];simp only[List.range,List.range.loop];refine qC qP rM vo jM rfl aj (λz _=>a_) ?_;walk_nrm
 refine qC qP rM (.agg #[.int .i64 ((K:Nat):Int),.int .i64 ((N:Nat):Int),.int .i64 ((C:Nat):Int)]) jM rfl aj (λz hz=>by
  have e:∀a,z.cell? a=w.cell? a:=λa=>Rz
  rw[<-e]at c0 c1 c2;go_simp) ?_
 walk_nrm;refine wo rM jM rfl aI func8 aj (c:=vg) aj (vs:=#[vo,.agg #[.int .i64 ((K:Nat):Int),.int .i64 ((N:Nat):Int),.int .i64 ((C:Nat):Int)]]) (n:=26) gI aj ?_;exact ayy
theorem aj8(rM:uU X D){T:aB}(hT:TH1 pb x4 x5 vb vo va T)
  (qJ:∀T',TH2 pb x4 x5 vb va ve T'->rC prog X Y D Stop none [] 5 [] [.code Ag] T' w):
  ∀z,qQ X Y z w->r_ prog D Stop (G ((ana T).finish (.tuple #[ve,.int .i64 0])) []) z:=by
 rw[show ana T=Dn none [] 5 T (.inRegion QS [2,3,4,5,6,7]::[.code Ag])from rfl];rw[vM jM];show rC _ _ _ _ _ _ _ _ _ _ _ _;obtain⟨g,rfl⟩:=hT;unfold Xj;walk_nrm;refine qC qP rM (.tuple #[ve,.int .i64 0]) jM rfl aj (λz _=>a_) ?_;walk_nrm;refine qC qP rM (ve) jM rfl aj (λz _=>a_) ?_;walk_nrm;refine qC qP rM (.int .i64 0) jM rfl aj (λz _=>a_) ?_;walk_nrm;refine qC qP rM (ve) jM rfl aj (λz _=>a_) ?_;walk_nrm;refine qC qP rM (.int .i64 0) jM rfl aj (λz _=>a_) ?_;walk_nrm;exact ayx
theorem ang(rM:uU X D){T:aB}(hT:TH5 pb vs y1 y2 T)(EX:ql w pb [.int .i64 ((K:Nat):Int),.int .i64 ((N:Nat):Int),.int .i64 ((C:Nat):Int)] 24)
  (qJ:∀T',TH5 pb vs y1 y2 T'->rC prog X Y D Stop none [] 8 [anc T'] [.code vg] (#[y1,.agg #[.int .i64 ((K:Nat):Int),.int .i64 ((N:Nat):Int),.int .i64 ((C:Nat):Int)]]++Array.replicate 26 undef) w):
  rC prog X Y D Stop none [] 5 [] [.code Xk] T w:=by
 obtain⟨g,rfl⟩:=hT;unfold Xj;have c0:=EX.cell (i:=0) rfl;have c1:=EX.cell (i:=1) rfl;have c2:=EX.cell (i:=2) rfl;rw[am9];refine qy rM (xH rM ?_);rw[ag3];simp only[List.range,List.range.loop];refine qC qP rM y1 jK rfl aj (λz _=>a_) ?_;walk_nrm
 refine qC qP rM (.agg #[.int .i64 ((K:Nat):Int),.int .i64 ((N:Nat):Int),.int .i64 ((C:Nat):Int)]) jK rfl aj (λz hz=>by
  have e:∀a,z.cell? a=w.cell? a:=λa=>Rz
  rw[<-e]at c0 c1 c2;go_simp) ?_
 walk_nrm;refine wo rM jK rfl aI func8 aj (c:=vg) aj (vs:=#[y1,.agg #[.int .i64 ((K:Nat):Int),.int .i64 ((N:Nat):Int),.int .i64 ((C:Nat):Int)]]) (n:=26) gI aj ?_;exact ayy
theorem aj9(rM:uU X D){T:aB}(hT:TH5 pb vs y1 y2 T)
  (qJ:∀T',TH6 pb vs y2 ve T'->rC prog X Y D Stop none [] 5 [] [.code TP] T' w):
  ∀z,qQ X Y z w->r_ prog D Stop (G ((anc T).finish (.tuple #[ve,.int .i64 0])) []) z:=by
 rw[show anc T=Dn none [] 5 T (.inRegion QT [2,3,4,5,6,7]::[.code TP])from rfl];rw[vM jK];show rC _ _ _ _ _ _ _ _ _ _ _ _;obtain⟨g,rfl⟩:=hT;unfold Xj;walk_nrm;refine qC qP rM (.tuple #[ve,.int .i64 0]) jK rfl aj (λz _=>a_) ?_;walk_nrm;refine qC qP rM (ve) jK rfl aj (λz _=>a_) ?_;walk_nrm;refine qC qP rM (.int .i64 0) jK rfl aj (λz _=>a_) ?_;walk_nrm;refine qC qP rM (ve) jK rfl aj (λz _=>a_) ?_;walk_nrm;refine qC qP rM (.int .i64 0) jK rfl aj (λz _=>a_) ?_;walk_nrm;exact ayx
theorem apL(rM:uU X D){T:aB}(hT:TH3 pb vb vm vs vx T)
  (qJ:∀T',TH3 pb vb vm vs vx T'->rC prog X Y D Stop none [] 11 [anb T'] [.code yG] (#[vs]++Array.replicate 55 undef) w):
  rC prog X Y D Stop none [] 5 [] [.code Jc] T w:=by
 obtain⟨g,rfl⟩:=hT;unfold Xj;rw[am8];refine qy rM (xH rM ?_);rw[ag2];simp only[List.range,List.range.loop];refine qC qP rM (vs) jo rfl aj (λz _=>a_) ?_;walk_nrm;refine wo rM jo rfl aI func11 aj (c:=yG) aj (vs:=#[vs]) (n:=55) gI aj ?_;exact ayy
theorem afz(rM:uU X D){T:aB}(hT:TH3 pb vb vm vs vx T)
  (qJ:∀T',TH4 pb vb vm vs vx y1 y2 y3 T'->rC prog X Y D Stop none [] 5 [] [.code FD] T' w):
  ∀z,qQ X Y z w->r_ prog D Stop (G ((anb T).finish (.tuple #[y1,y2,y3])) []) z:=by
 rw[show anb T=Dn none [] 5 T (.inRegion Pn [1,2,3,4,5,6,7,8]::[.code FD])from rfl];rw[vM jo];show rC _ _ _ _ _ _ _ _ _ _ _ _;obtain⟨g,rfl⟩:=hT;unfold Xj;walk_nrm;refine qC qP rM (.tuple #[y1,y2,y3]) jo rfl aj (λz _=>a_) ?_;walk_nrm;refine qC qP rM (y1) jo rfl aj (λz _=>a_) ?_;walk_nrm;refine qC qP rM (y2) jo rfl aj (λz _=>a_) ?_;walk_nrm;refine qC qP rM (y3) jo rfl aj (λz _=>a_) ?_;walk_nrm;refine qC qP rM (y1) jo rfl aj (λz _=>a_) ?_;walk_nrm;refine qC qP rM (y2) jo rfl aj (λz _=>a_) ?_;walk_nrm;refine qC qP rM (y3) jo rfl aj (λz _=>a_) ?_;walk_nrm;exact ayx
