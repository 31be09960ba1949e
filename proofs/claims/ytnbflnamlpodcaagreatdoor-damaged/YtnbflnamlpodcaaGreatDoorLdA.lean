import Derived.Test.YtnbflnamlpodcaaGreatDoorDmB
import Derived.Test.YtnbflnamlpodcaaGreatDoorRows
import Derived.LaidMore
import Derived.LaidSub
import Derived.Stop.LaidErr
set_option maxHeartbeats 8000000
set_option maxRecDepth 100000
namespace Go.Proofs.Y
open YtnbflnamlpodcaaGreatDoor
open Go.Proofs.Tryz
open Go.RowKit Go.Deep Go.Lf Go.Conc Go.Hp
noncomputable def uU:Code:=Tryz.f4.body.getD .skip
noncomputable def dm3:Code:=qo (qo (qo uU))
noncomputable def UZ:Code:=qo dm3
noncomputable def Su:Code:=qo (qo (qo (qo (qo UZ))))
noncomputable def MW:Code:=qo Su
noncomputable def mq3:{y:Array Oper//y=uk (qJ dm3)}:=⟨_,by(simp only[dm3,uU,qJ,qo,uk,Tryz.f4,aB];rfl)⟩
noncomputable def mP3:Array Oper:=mq3.1
theorem aoQ:dm3=.seq (.region 3 mP3 false) UZ:=ag
theorem ajy:mP3.size=8:=ag
noncomputable def U0:{y:Array Oper//y=uk (qJ Su)}:=⟨_,by(simp only[Su,UZ,dm3,uU,qJ,qo,uk,Tryz.f4,aB];rfl)⟩
noncomputable def OB:Array Oper:=U0.1
theorem amg:Su=.seq (.region 22 OB false) MW:=ag
theorem agt:OB.size=9:=ag
theorem Qg:∃fn,prog.funcs[4]?=some fn:=⟨_,func4⟩
theorem agu:uU=.seq (qJ uU) (.seq (qJ (qo uU)) (.seq (qJ (qo (qo uU))) dm3)):=ag
def Tdm(f:Nat->Value)(a4 a5 a6 a15 a16 a17 a18 a19 a20 a21 a25 a26 a27:Value):Array Value:=#[f 0,f 1,f 2,f 3,a4,a5,a6,f 7,f 8,f 9,f 10,f 11,f 12,f 13,f 14,a15,a16,a17,a18,a19,a20,a21,f 22,f 23,f 24,a25,a26,a27,f 28,f 29,f 30,f 31,f 32,f 33,f 34,f 35,f 36,f 37,f 38,f 39,f 40,f 41,f 42,f 43,f 44,f 45,f 46,f 47,f 48,f 49,f 50,f 51,f 52,f 53,f 54,f 55,f 56,f 57,f 58,f 59,f 60,f 61,f 62,f 63,f 64,f 65,f 66,f 67,f 68,f 69,f 70,f 71,f 72,f 73,f 74,f 75,f 76,f 77,f 78,f 79,f 80,f 81,f 82,f 83,f 84,f 85,f 86,f 87,f 88,f 89,f 90,f 91,f 92,f 93,f 94,f 95,f 96,f 97,f 98,f 99,f 100,f 101,f 102,f 103,f 104,f 105,f 106,f 107,f 108,f 109,f 110,f 111,f 112,f 113,f 114,f 115,f 116,f 117,f 118,f 119,f 120,f 121,f 122,f 123,f 124,f 125,f 126,f 127,f 128,f 129,f 130,f 131,f 132,f 133,f 134,f 135,f 136,f 137,f 138,f 139,f 140,f 141,f 142,f 143,f 144,f 145,f 146,f 147,f 148,f 149,f 150]
theorem Qh{T:Array Value}(h:T=#[T.getD 0 undef,T.getD 1 undef,T.getD 2 undef,T.getD 3 undef,T.getD 4 undef,T.getD 5 undef,T.getD 6 undef,T.getD 7 undef,T.getD 8 undef,T.getD 9 undef,T.getD 10 undef,T.getD 11 undef,T.getD 12 undef,T.getD 13 undef,T.getD 14 undef,T.getD 15 undef,T.getD 16 undef,T.getD 17 undef,T.getD 18 undef,T.getD 19 undef,T.getD 20 undef,T.getD 21 undef,T.getD 22 undef,T.getD 23 undef,T.getD 24 undef,T.getD 25 undef,T.getD 26 undef,T.getD 27 undef,T.getD 28 undef,T.getD 29 undef,T.getD 30 undef,T.getD 31 undef,T.getD 32 undef,T.getD 33 undef,T.getD 34 undef,T.getD 35 undef,T.getD 36 undef,T.getD 37 undef,T.getD 38 undef,T.getD 39 undef,T.getD 40 undef,T.getD 41 undef,T.getD 42 undef,T.getD 43 undef,T.getD 44 undef,T.getD 45 undef,T.getD 46 undef,T.getD 47 undef,T.getD 48 undef,T.getD 49 undef,T.getD 50 undef,T.getD 51 undef,T.getD 52 undef,T.getD 53 undef,T.getD 54 undef,T.getD 55 undef,T.getD 56 undef,T.getD 57 undef,T.getD 58 undef,T.getD 59 undef,T.getD 60 undef,T.getD 61 undef,T.getD 62 undef,T.getD 63 undef,T.getD 64 undef,T.getD 65 undef,T.getD 66 undef,T.getD 67 undef,T.getD 68 undef,T.getD 69 undef,T.getD 70 undef,T.getD 71 undef,T.getD 72 undef,T.getD 73 undef,T.getD 74 undef,T.getD 75 undef,T.getD 76 undef,T.getD 77 undef,T.getD 78 undef,T.getD 79 undef,T.getD 80 undef,T.getD 81 undef,T.getD 82 undef,T.getD 83 undef,T.getD 84 undef,T.getD 85 undef,T.getD 86 undef,T.getD 87 undef,T.getD 88 undef,T.getD 89 undef,T.getD 90 undef,T.getD 91 undef,T.getD 92 undef,T.getD 93 undef,T.getD 94 undef,T.getD 95 undef,T.getD 96 undef,T.getD 97 undef,T.getD 98 undef,T.getD 99 undef,T.getD 100 undef,T.getD 101 undef,T.getD 102 undef,T.getD 103 undef,T.getD 104 undef,T.getD 105 undef,T.getD 106 undef,T.getD 107 undef,T.getD 108 undef,T.getD 109 undef,T.getD 110 undef,T.getD 111 undef,T.getD 112 undef,T.getD 113 undef,T.getD 114 undef,T.getD 115 undef,T.getD 116 undef,T.getD 117 undef,T.getD 118 undef,T.getD 119 undef,T.getD 120 undef,T.getD 121 undef,T.getD 122 undef,T.getD 123 undef,T.getD 124 undef,T.getD 125 undef,T.getD 126 undef,T.getD 127 undef,T.getD 128 undef,T.getD 129 undef,T.getD 130 undef,T.getD 131 undef,T.getD 132 undef,T.getD 133 undef,T.getD 134 undef,T.getD 135 undef,T.getD 136 undef,T.getD 137 undef,T.getD 138 undef,T.getD 139 undef,T.getD 140 undef,T.getD 141 undef,T.getD 142 undef,T.getD 143 undef,T.getD 144 undef,T.getD 145 undef,T.getD 146 undef,T.getD 147 undef,T.getD 148 undef,T.getD 149 undef,T.getD 150 undef]):T=Tdm (λi=>T.getD i undef) (T.getD 4 undef) (T.getD 5 undef) (T.getD 6 undef) (T.getD 15 undef) (T.getD 16 undef) (T.getD 17 undef) (T.getD 18 undef) (T.getD 19 undef) (T.getD 20 undef) (T.getD 21 undef) (T.getD 25 undef) (T.getD 26 undef) (T.getD 27 undef):=h
def ajz(x4 x5 x6:Value)(pb:Nat)(vb:Value)(T:Array Value):Prop:=∃f:Nat->Value,T=Tdm f (x4) (x5) (x6) (.pointer (some ⟨pb,0,none⟩)) (vb) (f 17) (f 18) (f 19) (f 20) (f 21) (f 25) (f 26) (f 27)
def aqD(x4 x5 x6:Value)(pb:Nat)(vb va:Value)(T:Array Value):Prop:=∃f:Nat->Value,T=Tdm f (x4) (x5) (x6) (.pointer (some ⟨pb,0,none⟩)) (vb) (va) (.int .i64 0) (f 19) (f 20) (f 21) (f 25) (f 26) (f 27)
def ajA(pb:Nat)(vb:Value)(bad ct:Nat)(vs:Value)(T:Array Value):Prop:=∃f:Nat->Value,T=Tdm f (f 4) (f 5) (f 6) (.pointer (some ⟨pb,0,none⟩)) (vb) (f 17) (f 18) (.int .i64 (bad:Int)) (.int .i64 (ct:Int)) (vs) (f 25) (f 26) (f 27)
def aqE(pb:Nat)(vb:Value)(bad ct:Nat)(y1 y2 y3:Value)(T:Array Value):Prop:=∃f:Nat->Value,T=Tdm f (f 4) (f 5) (f 6) (.pointer (some ⟨pb,0,none⟩)) (vb) (f 17) (f 18) (.int .i64 (bad:Int)) (.int .i64 (ct:Int)) (f 21) (y1) (y2) (y3)
noncomputable def ajB(T:Array Value):Frame:=(base 4).at ⟨T,[]⟩ (.inRegion mP3 [2,3,4,5,6,7]::[.code UZ])
noncomputable def ae_(T:Array Value):Frame:=(base 4).at ⟨T,[]⟩ (.inRegion OB [1,2,3,4,5,6,7,8]::[.code MW])
section
variable {X:Nat->Prop}{Y:Nat->Option Obj}{D:Nat->World->Array Event->Prop}{Stop:Goroutine->World->Prop}{w:World}
theorem ajC(sW:vw X D){vr x4 x5 x6:Value}{k n c:Int}{zr:List Int}(hr:IC w vr zr)(hlr:zr.length<9223372036854775807)(hk:Ie k)(hn:Ie n)(hc:Ie c)
  (qH:∀(T:Array Value)(m:Nat)(f:Nat->qY)(Dt:Nat->List UInt8)(pb:Nat)(vb:Value)(w':World),ajz x4 x5 x6 pb vb T->SmP (Wv k n) (Gq n) (cOf c) m f Dt pb vb w'->sK w.heap.size w w'->
   uh prog X Y D Stop 4 [] [.code dm3] ⟨T,[]⟩ w'):
  uh prog X Y D Stop 4 [] [.code uU] ⟨#[vr,.int .i64 k,.int .i64 n,.int .i64 c,x4,x5,x6]++Array.replicate 144 undef,[]⟩ w:=by
 rw[agu];simp only[cu,b_,bU,bY,bg,aV];refine qQ qZ sW ag rfl Qg λR hR τ d'=>?_
 have bl:sK w.heap.size w {w with tape:=τ,drawn:=d'}:=(sK.refl _ w).tp τ d';generalize({w with tape:=τ,drawn:=d'}:World)=wA at bl⊢;simp only[qJ,uU,Tryz.f4,aB];go_wp2;refine qQ qZ sW ag rfl Qg λR hR τ d'=>?_
 replace bl:=bl.tp τ d';generalize({wA with tape:=τ,drawn:=d'}:World)=wB at bl⊢;have kp:=abt k n c hk hn hc;simp only[prm]at kp;simp only[qJ,qo,uU,Tryz.f4,aB];generalize hkk:Wv k n=kk at*;generalize hnn:Gq n=nn at*;generalize hcc:cOf c=cc at*
 go_wp2_with(first|(go_at_call 6;(with_reducible refine(kp _).mono ?_);rintro r w1 ⟨rfl,t_⟩))
 clear kp;have EJ:=qf.made w1 [.int .i64 ((kk:Nat):Int),.int .i64 ((nn:Nat):Int),.int .i64 ((cc:Nat):Int)] 24;have KJ:=(bl.trans (sK.of t_) bl.sH).trans (sK.of ((aA w1.heap.size w1).alloc (ak _) (.cells #[.int .i64 ((kk:Nat):Int),.int .i64 ((nn:Nat):Int),.int .i64 ((cc:Nat):Int)] 24))) (aJ bl.sH t_.size);clear t_ bl;change qf (w1.alloc (.cells #[.int .i64 ((kk:Nat):Int),.int .i64 ((nn:Nat):Int),.int .i64 ((cc:Nat):Int)] 24)) _ _ _ at EJ;generalize w1.alloc (.cells #[.int .i64 ((kk:Nat):Int),.int .i64 ((nn:Nat):Int),.int .i64 ((cc:Nat):Int)] 24)=w2 at EJ KJ⊢;generalize w1.heap.size=pb at EJ KJ⊢;refine qQ qZ sW ag rfl Qg λR hR τ d'=>?_
 replace KJ:=KJ.tp τ d';replace EJ:qf ({w2 with tape:=τ,drawn:=d'}:World) pb [.int .i64 ((kk:Nat):Int),.int .i64 ((nn:Nat):Int),.int .i64 ((cc:Nat):Int)] 24:=EJ;generalize({w2 with tape:=τ,drawn:=d'}:World)=w2 at KJ EJ⊢;have ka:=abu vr zr w2 (hr.AZ KJ (ak _)) hlr;simp only[qJ,qo,uU,Tryz.f4,aB]
 go_wp2_with(first|(go_at_call 7;(with_reducible refine ka.mono ?_);rintro r w3 ⟨vb,m,f,Dt,rfl,hm,hA⟩))
 clear ka;exact qH _ m f Dt pb vb w3 ⟨_,Qh rfl⟩ ⟨EJ.later (S:=λ_=>False) (.qm hA.AZ) EJ.lt id,⟨_,hA.own⟩,hA.nm,hA.len,hA.dat,hm⟩ (KJ.trans (sK.of hA.AZ) KJ.sH)
variable {K N C m:Nat}{f:Nat->qY}{Dt:Nat->List UInt8}{pb:Nat}{vb va x4 x5 x6:Value}
theorem amh(sW:vw X D){T:Array Value}(hT:ajz x4 x5 x6 pb vb T)(hS:SmP K N C m f Dt pb vb w)
  (qH:∀T',ajz x4 x5 x6 pb vb T'->uh prog X Y D Stop 8 [ajB T'] [.code xQ] ⟨#[vb,.agg #[.int .i64 ((K:Nat):Int),.int .i64 ((N:Nat):Int),.int .i64 ((C:Nat):Int)]]++Array.replicate 26 undef,[]⟩ w):
  uh prog X Y D Stop 4 [] [.code dm3] ⟨T,[]⟩ w:=by
 obtain⟨g,rfl⟩:=hT;unfold Tdm;have c0:=hS.par.cell (i:=0) rfl;have c1:=hS.par.cell (i:=1) rfl;have c2:=hS.par.cell (i:=2) rfl;rw[aoQ];refine vX sW rfl (BQ sW ?_);rw[ajy];simp only[List.range,List.range.loop];refine qw qZ sW vb jd rfl ag (λz _=>aN) ?_;walk_nrm
 refine qw qZ sW (.agg #[.int .i64 ((K:Nat):Int),.int .i64 ((N:Nat):Int),.int .i64 ((C:Nat):Int)]) jd rfl ag (λz hz=>by
  have e:∀a,z.cell? a=w.cell? a:=λa=>by simp only[World.cell?,hz]
  rw[<-e]at c0 c1 c2;go_simp) ?_
 walk_nrm;refine xH sW jd rfl ax func8 ag (c:=xQ) ag (vs:=#[vb,.agg #[.int .i64 ((K:Nat):Int),.int .i64 ((N:Nat):Int),.int .i64 ((C:Nat):Int)]]) (n:=26) fQ ag ?_;unfold ajB at qH;exact awQ
theorem aoR(sW:vw X D){T:Array Value}(hT:ajz x4 x5 x6 pb vb T)
  (qH:∀T',aqD x4 x5 x6 pb vb va T'->rD prog X Y D Stop none [] 4 [] [.code UZ] T' w):
  ∀z,qL X Y z w->rV prog D Stop (G ((ajB T).finish (.tuple #[va,.int .i64 0])) []) z:=by
 rw[show ajB T=Dn none [] 4 T (.inRegion mP3 [2,3,4,5,6,7]::[.code UZ])from rfl];rw[wU jd];show rD _ _ _ _ _ _ _ _ _ _ _ _;obtain⟨g,rfl⟩:=hT;unfold Tdm;walk_nrm;refine qw qZ sW (.tuple #[va,.int .i64 0]) jd rfl ag (λz _=>aN) ?_;walk_nrm;refine qw qZ sW (va) jd rfl ag (λz _=>aN) ?_;walk_nrm;refine qw qZ sW (.int .i64 0) jd rfl ag (λz _=>aN) ?_;walk_nrm;refine qw qZ sW (va) jd rfl ag (λz _=>aN) ?_;walk_nrm;refine qw qZ sW (.int .i64 0) jd rfl ag (λz _=>aN) ?_;walk_nrm;refine tZ sW ?_;exact awQ
theorem aoS(sW:vw X D){T:Array Value}{bad ct:Nat}{vs:Value}(hT:ajA pb vb bad ct vs T)
  (qH:∀T',ajA pb vb bad ct vs T'->rD prog X Y D Stop none [] 11 [ae_ T'] [.code yg] (#[vs]++Array.replicate 55 undef) w):
  rD prog X Y D Stop none [] 4 [] [.code Su] T w:=by
 obtain⟨g,rfl⟩:=hT;unfold Tdm;rw[amg];refine qx sW (BV sW ?_);rw[agt];simp only[List.range,List.range.loop];refine qw qZ sW (vs) iJ rfl ag (λz _=>aN) ?_;walk_nrm;refine xH sW iJ rfl ax func11 ag (c:=yg) ag (vs:=#[vs]) (n:=55) fQ ag ?_;exact awQ
theorem ami(sW:vw X D){T:Array Value}{bad ct:Nat}{vs y1 y2 y3:Value}(hT:ajA pb vb bad ct vs T)
  (qH:∀T',aqE pb vb bad ct y1 y2 y3 T'->rD prog X Y D Stop none [] 4 [] [.code MW] T' w):
  ∀z,qL X Y z w->rV prog D Stop (G ((ae_ T).finish (.tuple #[y1,y2,y3])) []) z:=by
 rw[show ae_ T=Dn none [] 4 T (.inRegion OB [1,2,3,4,5,6,7,8]::[.code MW])from rfl];rw[wU iJ];show rD _ _ _ _ _ _ _ _ _ _ _ _;obtain⟨g,rfl⟩:=hT;unfold Tdm;walk_nrm;refine qw qZ sW (.tuple #[y1,y2,y3]) iJ rfl ag (λz _=>aN) ?_;walk_nrm;refine qw qZ sW (y1) iJ rfl ag (λz _=>aN) ?_;walk_nrm;refine qw qZ sW (y2) iJ rfl ag (λz _=>aN) ?_;walk_nrm;refine qw qZ sW (y3) iJ rfl ag (λz _=>aN) ?_;walk_nrm;refine qw qZ sW (y1) iJ rfl ag (λz _=>aN) ?_;walk_nrm;refine qw qZ sW (y2) iJ rfl ag (λz _=>aN) ?_;walk_nrm;refine qw qZ sW (y3) iJ rfl ag (λz _=>aN) ?_;walk_nrm;refine tZ sW ?_;exact awQ
end
theorem aoT:UZ=.seq (qJ UZ) (.seq (qJ (qo UZ)) (.seq (qJ (qo (qo UZ))) (.seq (qJ (qo (qo (qo UZ)))) (.seq (qJ (qo (qo (qo (qo UZ))))) Su)))):=ag
theorem amj{w:World}{b L:Nat}{l:List UInt8}(h:w.rowIs b 5 L (λj=>.int .u8 ((tJ l j:Nat):Int)))(hl:l.length=L)(hm:L<=maxLen):rG 0 w (.slice (some ⟨b,0,none⟩) L L) l:=by
 subst hl;obtain⟨c,h1,h2,h3⟩:=h;refine⟨dL,.inr ⟨b,_,c,rfl,fC _,h1,ak _,hm,ae,?_⟩⟩;rw[iD,iF az];apply iY;intro j;rw[aup];by_cases hj:j<l.length
 .rw[h3 j hj,wR hj]
 .rw[jQ ae,gG (by simp[r_];omega)]
theorem afa{b:Nat}(hb:b<9223372036854775808)(i:Nat):bits .and .i64 ((b:Int)/2^i) 1=((b/2^i%2:Nat):Int):=by
 have h:b/2^i<9223372036854775808:=iP (Nat.div_le_self _ _) hb;have e:((b:Int)/2^i)=((b/2^i:Nat):Int):=ai;rw[e];generalize b/2^i=t at h;have h1:(BitVec.ofInt 64 (t:Int)).toNat=t:=by rw[aun,oq];exact aZ ae
 show IntKind.i64.wrap ((BitVec.ofInt 64 (t:Int)&&&BitVec.ofInt 64 1).toNat:Int)=_;rw[BitVec.toNat_and,h1,show(BitVec.ofInt 64 1).toNat=1 from rfl,Nat.and_one_is_mod,dZ];omega
def HuI(w:World)(bad i:Nat)(Bs:Nat->List UInt8)(v:Value)(wr:World)(sv:Nat->Value)(sb:Nat->List UInt8):Prop:=
 wr.ownsRow w.heap.size 34 1 v i ((List.range i).map sv)/\sK w.heap.size w wr/\∀j,j<i->rG 0 wr (sv j) (sb j)/\YX bad j (Bs j) (sb j)
theorem HuI.more{w wr wa w6:World}{bad i:Nat}{Bs:Nat->List UInt8}{v v' x:Value}{sv:Nat->Value}{sb:Nat->List UInt8}{z:List UInt8}(h:HuI w bad i Bs v wr sv sb)(ha:Below wr.heap.size wr wa)(hx:rG 0 wa x z)(hH:YX bad i (Bs i) z)(hv:wa.ownsRow w.heap.size 34 1 v i ((List.range i).map sv))
  (uK:w6.ownsRow w.heap.size 34 1 v' (i+1) ((List.range i).map sv++[x])) (hg:(wa.alloc (.cells #[x] 34)).grownBy w6 v.ownBlock):HuI w bad (i+1) Bs v' w6 (λj=>if j=i then x else sv j) (λj=>if j=i then z else sb j):=by
 obtain⟨h1,h2,h3⟩:=h;have hb:w.heap.size<=wr.heap.size:=h2.sH;have hs:=ha.size;have k:∀{B:Nat}{y:Value}{u:List UInt8},wa.ownsRow B 5 1 y u.length (r_ u)->rG 0 w6 y u:=λhy=>Oe (B:=0) (hv.mono (fC _)) (hy.mono (fC _)) au ((aA _ _).alloc (ak _) _) hg
 refine⟨?_,h2.trans (sK.of (((ha.mono hb).alloc ae _).grown hg az (λq hq=>(hv.lt q hq).1))) (ak _),λj hj=>?_⟩
 .rw[dC,iH,fE,jm,aj rfl]
  have e:(List.range i).map (λj=>if j=i then x else sv j)=(List.range i).map sv:=mi λj hj=>by have:=fK.1 hj;rw[ah ae]
  rw[e];exact uK
 .by_cases q:j=i
  .subst q;simp only[aF];exact⟨k hx,hH⟩
  .simp only[ah q];obtain⟨a1,a2⟩:=h3 j ae;exact⟨k (rX a1 λg uB=>ha.block g (eQ a1 g uB).2),a2⟩
section
variable {X:Nat->Prop}{Y:Nat->Option Obj}{D:Nat->World->Array Event->Prop}{Stop:Goroutine->World->Prop}{w:World}
variable {K N C m:Nat}{f:Nat->qY}{Dt:Nat->List UInt8}{pb bh:Nat}{vb v5 v6:Value}{z4:Int}{z5 z6:List Int}{ov:Nat->Value}{Bs:Nat->List UInt8}{T:Array Value}
theorem aoU(sW:vw X D)(hT:aqD (.int .i64 z4) v5 v6 pb vb (.slice (some ⟨bh,0,none⟩) N N) T)(hS:SmP K N C m f Dt pb vb w)(h5:IC w v5 z5)(hl5:z5.length<9223372036854775807)(h6:IC w v6 z6)(hl6:z6.length<9223372036854775807)(h4:Ie z4)(hN1:1<=N)(hN:N<=12)
  (hcell:∀i,i<N->w.cell? ⟨bh,i,none⟩=some (ov i)) (uK:∀i,i<N->rG 0 w (ov i) (Bs i)) (hlen:∀i,i<N->0<(Bs i).length/\(Bs i).length<=10000000000)
  (qH:∀(T':Array Value)(bad b cp:Nat)(sv:Nat->Value)(sb:Nat->List UInt8)(w':World),ajA pb vb bad (V9 bad N).length (.slice (some ⟨b,0,none⟩) N cp) T'->bad<2^N->sK w.heap.size w w'->SlB w' (some ⟨b,0,none⟩) N sb sv->(∀i,i<N->YX bad i (Bs i) (sb i))->
   rD prog X Y D Stop none [] 4 [] [.code Su] T' w'):
  rD prog X Y D Stop none [] 4 [] [.code UZ] T w:=by
 obtain⟨g,rfl⟩:=hT;unfold Tdm;rw[aoT];refine qx sW (rY qZ sW ag Qg λR hR τ d=>?_);have c1:({w with tape:=τ,drawn:=d}:World).cell? ⟨pb,1,none⟩=some (.int .i64 (N:Int)):=hS.par.cell (i:=1) rfl;have bl:sK w.heap.size w {w with tape:=τ,drawn:=d}:=(sK.refl _ w).tp τ d;generalize({w with tape:=τ,drawn:=d}:World)=wA at bl c1⊢;simp only[UZ,dm3,qJ,qo,uU,Tryz.f4,aB];go_wp2;refine qx sW (rY qZ sW ag Qg λR hR τ d=>?_);replace c1:({wA with tape:=τ,drawn:=d}:World).cell? ⟨pb,1,none⟩=some (.int .i64 (N:Int)):=c1;replace bl:=bl.tp τ d;generalize({wA with tape:=τ,drawn:=d}:World)=wB at bl c1⊢;have atw:(N:Int)<=64:=ae;have h2N:2^N<9223372036854775808:=iP (jh (n:=2) ae hN) au
 have e1:IntKind.i64.wrap ((2:Int)^N)=(2:Int)^N:=by have:((2:Int)^N)=((2^N:Nat):Int):=ai;rw[this];generalize 2^N=t at h2N;rw[dZ];omega
 have kp:=EC z4 (2^N) ((2:Int)^N) ai h4.1 h4.2 (Nat.two_pow_pos N) h2N;have Xd:zn z4 (2^N)<2^N:=zq z4 (Nat.two_pow_pos N);generalize zn z4 (2^N)=bad at kp Xd;simp only[UZ,dm3,qJ,qo,uU,Tryz.f4,aB]
 go_wp2_with(first|(go_at_call 10;(with_reducible refine(kp _).mono ?_);rintro r w1 ⟨rfl,BB⟩;obtain rfl:=BB.symm))
 clear kp c1 e1;refine qx sW (rY qZ sW ag Qg λR hR τ d=>?_);replace bl:=bl.tp τ d;generalize({wB with tape:=τ,drawn:=d}:World)=w2 at bl⊢;simp only[UZ,dm3,qJ,qo,uU,Tryz.f4,aB];go_wp2;refine qx sW (rY qZ sW ag Qg λR hR τ d=>?_);replace bl:=bl.tp τ d;generalize({w2 with tape:=τ,drawn:=d}:World)=w3 at bl⊢;simp only[UZ,dm3,qJ,qo,uU,Tryz.f4,aB];go_wp2;refine qx sW (rY qZ sW ag Qg λR hR τ d=>?_);replace bl:=bl.tp τ d;generalize({w3 with tape:=τ,drawn:=d}:World)=w5 at bl⊢;simp only[UZ,dm3,qJ,qo,uU,Tryz.f4,aB];obtain⟨i0,Af,x_,w_,wH⟩:=bG Tryz.amk;have bs5:=uo bl;have hp5:=(bs5.row hS.par).cell (i:=1) rfl;have g5:=h5.AZ bl (ak _);have g6:=h6.AZ bl (ak _);have CE:∀i,i<N->rG 0 w5 (ov i) (Bs i):=λi hi=>rX (uK i hi) λq hq=>bl.blk (eQ (uK i hi) q hq).2
 have aoV:=λi hi=>bs5.cell (hcell i hi)
 clear hS h5 h6 uK hcell bs5;go_wp2
 go_loopw [20,21,22] (λv20 v21 v22 wr=>∃(i:Nat)(sv:Nat->Value)(sb:Nat->List UInt8),i<=N/\v22=.int .i64 (i:Int)/\v20=.int .i64 (((V9 bad i).length:Nat):Int)/\HuI w5 bad i Bs v21 wr sv sb) (λ_ _ v22 _=>N-(intOf v22).toNat)
 case atStart=>exact⟨0,λ_=>undef,λ_=>[],ae,rfl,rfl,dh _ _ _ _,sK.refl _ _,λj hj=>ae⟩
 case round=>
  obtain⟨i,sv,sb,hi,rfl,rfl,hI⟩:=hrel;have FP:=uo hI.2.1;have cN:=FP.cell hp5;by_cases qE:i<N
  .have Ag:(i:Int)<(N:Int):=ae;have asT:(i:Int)<=64:=ae;have cA:=FP.cell (aoV i qE);have VV:∀{wa:World},Below wr.heap.size wr wa->rG 0 wa (ov i) (Bs i):=λhb=>rX (CE i qE) λq hq=>(hb.block q (aK (eQ (CE i qE) q hq).2 hI.2.1.sH)).trans (hI.2.1.blk (eQ (CE i qE) q hq).2)
   have hO:=VV (aA _ wr);obtain⟨bq,cq,ev⟩:=(qR.owned hO).len;have apB:(ov i).oneCell'=true:=aml hO;obtain⟨bt,ct',rfl⟩:=uH hI.1;have atJ:=hI.2.1.sH;have h2:bad/2^i%2=0\/bad/2^i%2=1:=ae;have acu:bits .and .i64 ((bad:Int)/2^i) 1=((bad/2^i%2:Nat):Int):=afa (aK Xd (iE h2N)) i;have hcn:=λx:Value=>Ee wr [x] 34
   obtain⟨cc,ecc⟩:∃c,(V9 bad i).length=c:=⟨_,rfl⟩;have hcc:cc<=12:=by have:=aog bad i;omega
   rw[ecc];have HC:Hid ((V9 bad i).length=cc):=ecc;clear ecc;generalize hv:ov i=vv at*;subst ev;rcases h2 with e|e
   .rw[e]at acu
    go_wp2_with(at_builtin;refine dG _ rfl _ _ 28 rfl w5.heap.size 34 i0 (.slice none 0 0) 1 24 underlying28 Af x_ w_ wH rfl au _ _ _ rfl (hI.1.alloc _) ⟨wr.heap.size,0,none⟩ 1 1 [.slice bq (r_ (Bs i)).length cq] rfl rfl (hcn _) (λu hu=>by rw[dR]at hu;subst hu;exact apB) bH ae az ?_;intro v' w6 RG tq _;obtain⟨gq,cz,rfl,_,_⟩:=RG.form ae)
    have hM:=hI.more (z:=Bs i) (aA _ wr) hO (by unfold YX;rw[aj e]) hI.1 RG tq;refine⟨⟨i+1,_,_,ae,ai,?_,hM⟩,fP⟩;rw[Ux,aj e,aS,HC.out];simp
   .rw[e]at acu;have hH:=hlen i qE;have kh:=λx y (hx:Ie x)=>ais (Bs i) (.slice bq (r_ (Bs i)).length cq) wr (qR.owned hO) hH.1 hH.2 x y hx
    obtain⟨b5,c5,rfl,q5⟩:=(g5.AZ hI.2.1 (ak _)).open;obtain⟨b6,c6,rfl,q6⟩:=(g6.AZ hI.2.1 (ak _)).open
    have r5:z5.length=0\/∃(b o j:Nat)(x:Int),(0:Int)<(z5.length:Int)/\(j:Int)<(z5.length:Int)/\(i:Int).tmod (z5.length:Int)=(j:Int)/\b5=some ⟨b,o,none⟩/\Ie x/\wr.cell? ⟨b,o+j,none⟩=some (.int .i64 x):=by
     rcases dK z5.length with h|h
     .exact .inl h
     .obtain⟨b,o,h1,_,h3⟩:=q5 h;have hm:=fJ i h;exact .inr ⟨b,o,i%z5.length,z5[i%z5.length],ae,ae,av3,h1,g5.abv _ (List.getElem_mem hm),h3 _ _ (a_ hm)⟩
    have r6:z6.length=0\/∃(b o j:Nat)(x:Int),(0:Int)<(z6.length:Int)/\(j:Int)<(z6.length:Int)/\(i:Int).tmod (z6.length:Int)=(j:Int)/\b6=some ⟨b,o,none⟩/\Ie x/\wr.cell? ⟨b,o+j,none⟩=some (.int .i64 x):=by
     rcases dK z6.length with h|h
     .exact .inl h
     .obtain⟨b,o,h1,_,h3⟩:=q6 h;have hm:=fJ i h;exact .inr ⟨b,o,i%z6.length,z6[i%z6.length],ae,ae,av3,h1,g6.abv _ (List.getElem_mem hm),h3 _ _ (a_ hm)⟩
    clear g5 g6 q5 q6;generalize z5.length=n5 at*;generalize z6.length=n6 at*
    have fin:∀(l':List UInt8)(wa:World)(v':Value)(w6:World),wa.rowIs wr.heap.size 5 (Bs i).length (λj=>.int .u8 ((tJ l' j:Nat):Int))->Below wr.heap.size wr wa->l'.length=(Bs i).length->Bst (vl (Bs i)^^^vl l')->l'≠Bs i->w6.ownsRow w5.heap.size 34 1 v' (i+1) ((List.range i).map sv++[.slice (some ⟨wr.heap.size,0,none⟩) (Bs i).length (Bs i).length])->(wa.alloc (.cells #[.slice (some ⟨wr.heap.size,0,none⟩) (Bs i).length (Bs i).length] 34)).grownBy w6 (Value.slice bt i ct').ownBlock->
      ∃(sv':Nat->Value)(sb':Nat->List UInt8),HuI w5 bad (i+1) Bs v' w6 sv' sb':=λl' wa v' w6 a1 a2 a3 a4 a5 a6 a7=>
     ⟨_,_,hI.more (z:=l') a2 (amj a1 a3 bH) (by unfold YX;rw[ah ae];exact⟨a3,a4,a5⟩) (rX hI.1 λq hq=>a2.block q (eQ hI.1 q hq).2) a6 a7⟩
    rcases r5 with rfl|⟨o5,f5,j5,x5,p5,m5,t5,rfl,i5,d5⟩<;>rcases r6 with rfl|⟨o6,f6,j6,x6,p6,m6,t6,rfl,i6,d6⟩
    all_goals
     go_wp2_with(first|(go_at_call 13;refine(kh _ _ (by first|assumption|exact⟨ae,ae⟩)).mono ?_;rintro r wa ⟨l',rfl,s1,s2,s3,s4,s5,s6⟩)|(at_builtin;refine dG _ rfl _ _ 28 rfl w5.heap.size 34 i0 (.slice none 0 0) 1 24 underlying28 Af x_ w_ wH rfl au _ _ _ rfl ((rX hI.1 λq hq=>s2.block q (eQ hI.1 q hq).2).alloc _) ⟨wa.heap.size,0,none⟩ 1 1 [.slice (some ⟨wr.heap.size,0,none⟩) (Bs i).length (Bs i).length] rfl rfl (Ee wa [.slice (some ⟨wr.heap.size,0,none⟩) (Bs i).length (Bs i).length] 34) (λu hu=>by rw[dR]at hu;subst hu;rfl) bH ae (by have:=s2.size;simp;omega) ?_;intro v' w6 RG tq _;obtain⟨gq,cz,rfl,_,_⟩:=RG.form ae))
     obtain⟨sv',sb',hM⟩:=fin l' wa _ w6 s1 s2 s4 s5 s6 RG tq;refine⟨⟨i+1,sv',sb',ae,ai,?_,hM⟩,fP⟩;rw[Ux,ah ae,HC.out]
  .obtain rfl:i=N:=ae;have GH:¬((i:Int)<(i:Int)):=ae;obtain⟨gq,cz,arA,_,_⟩:=hI.1.form ae;subst arA
   have hSl:SlB wr (some ⟨gq,0,none⟩) i sb sv:=by
    refine⟨λ_=>⟨gq,0,rfl,λj hj=>?_⟩,λj hj=>?_⟩
    .rw[aT,hI.1.cellAt j ae];simp[hj]
    .obtain⟨a1,a2⟩:=hI.2.2 j hj;refine⟨qR.owned a1,adB a1,?_⟩;have hl:=hlen j hj;unfold YX at a2;split at a2
     .rw[a2];omega
     .rw[a2.1];omega
   go_wp2;exact qH _ bad gq cz sv sb wr ⟨_,Qh rfl⟩ Xd (bl.trans hI.2.1 bl.sH) hSl (λj hj=>(hI.2.2 j hj).2)
end
noncomputable def amm:Code:=qJ (qo (qo MW))
noncomputable def aqF:Code:=match qo amm with| .cond _ c _=>c|c=>c
theorem amn:MW=.seq (qJ MW) (.seq (qJ (qo MW)) (.seq (.seq (qJ amm) (.cond (.tmp 136) (.seq (qJ aqF) .ret) .skip)) (.seq (qJ (qo (qo (qo MW)))) .ret))):=ag
section
variable {X:Nat->Prop}{Y:Nat->Option Obj}{D:Nat->World->Array Event->Prop}{Stop:Goroutine->World->Prop}{w:World}
variable {K N C m:Nat}{pb:Nat}{bo:Option Addr}{cap bad ct gv er:Nat}{y1:Value}{T:Array Value}{ns Da:Nat->List UInt8}{va:Nat->Value}{es:Nat->Nat}
theorem aoW(sW:vw X D)(hT:aqE pb (.slice bo m cap) bad ct y1 (.slice (some ⟨gv,0,none⟩) N N) (.int .i64 (er:Int)) T)(aqG:qf w pb [.int .i64 ((K:Nat):Int),.int .i64 ((N:Nat):Int),.int .i64 ((C:Nat):Int)] 24)(hm:m<=1048576)(hN:N<=12)(Xd:bad<2^N)
  (ak_:∀i,i<N->w.cell? ⟨gv,i,none⟩=some (.int .i64 ((es i:Nat):Int))) (Xa:∀i,i<N->(es i=0↔bad/2^i%2=0)) (h2:BlS w bo m ns Da va)
  (hc:(ct<K/\er=12/\y1=.slice none 0 0)\/(K<=ct/\er=0/\∃gb vd,y1=.slice (some ⟨gb,0,none⟩) m m/\BlS w (some ⟨gb,0,none⟩) m ns Da vd))
  (Ez:∀(T':Array Value)(kk:List Item)(w':World),T'.getD 14 undef=.bool true->sK w.heap.size w w'->rD prog X Y D Stop none [] 4 [] (.code .ret::kk) T' w'):
  rD prog X Y D Stop none [] 4 [] [.code MW] T w:=by
 obtain⟨g,rfl⟩:=hT;unfold Tdm;have c1:=aqG.cell (i:=1) rfl;have c0:=aqG.cell (i:=0) rfl;rw[amn]
 obtain⟨b1,n1,k1,ey⟩:∃b1 n1 k1,y1=.slice b1 n1 k1:=by rcases hc with⟨_,_,h⟩|⟨_,_,gb,vd,h,_⟩<;>exact⟨_,_,_,h⟩
 subst ey;refine qx sW (rY qZ sW ag Qg λR hR τ d=>?_);have bl:sK w.heap.size w {w with tape:=τ,drawn:=d}:=(sK.refl _ w).tp τ d;have cA:({w with tape:=τ,drawn:=d}:World).cell? ⟨pb,1,none⟩=some (.int .i64 (N:Int)):=c1;generalize({w with tape:=τ,drawn:=d}:World)=wA at bl cA⊢;simp only[MW,Su,UZ,dm3,qJ,qo,uU,Tryz.f4,aB];go_wp2;clear cA;refine qx sW (rY qZ sW ag Qg λR hR τ d=>?_);replace bl:=bl.tp τ d;generalize({wA with tape:=τ,drawn:=d}:World)=wB at bl⊢;simp only[MW,Su,UZ,dm3,qJ,qo,uU,Tryz.f4,aB];have hv2:=λi hi=>(uo bl).cell (ak_ i hi)
 have cB:=(uo bl).cell c1;go_wp2
 go_loopw [28] (λvi wr=>∃i:Nat,i<=N/\vi=.int .i64 (i:Int)/\sK wB.heap.size wB wr) (λvi _=>N-(intOf vi).toNat)
 case atStart=>exact⟨0,ae,rfl,sK.refl _ _⟩
 case round=>
  obtain⟨i,hi,rfl,Iu⟩:=hrel;have cN:=(uo Iu).cell cB;by_cases qE:i<N
  .have Ag:(i:Int)<(N:Int):=ae;have asT:(i:Int)<=64:=ae;have c2:=(uo Iu).cell (hv2 i qE);have acu:=afa (b:=bad) (aK Xd (aJ (jh (n:=2) ae hN) au)) i;have he:=Xa i qE;generalize es i=t at c2 he;have h2:bad/2^i%2=0\/bad/2^i%2=1:=ae;rcases h2 with e|e
   .rw[e]at acu;obtain rfl:t=0:=he.2 e;clear he;go_wp2
    go_big_quiet (fail)
    exact axR
   .rw[e]at acu
    have ht:((t:Int)==0)=false:=by
     have:t≠0:=λh=>by have:=he.1 h;omega
     simp;omega
    clear he;go_wp2
    go_big_quiet (fail)
    exact axR
  .obtain rfl:i=N:=ae;have GH:¬((i:Int)<(i:Int)):=ae;go_wp2;replace bl:=bl.trans Iu bl.sH;clear Iu cN hv2 ak_ Xa Xd;refine qx sW (qx sW (rY qZ sW ag Qg λR hR τ d=>?_));replace bl:=bl.tp τ d;generalize({wr with tape:=τ,drawn:=d}:World)=wD at bl⊢;have cK:=(uo bl).cell c0;simp only[amm,MW,Su,UZ,dm3,qJ,qo,uU,Tryz.f4,aB];rcases hc with⟨hck,rfl,e⟩|⟨hck,rfl,gb,vd,e,h1⟩
   .have ar0:(ct:Int)<(K:Int):=ae;cases e;go_wp2;refine yI sW (b:=true) rfl ?_;refine qx sW (rY qZ sW ag Qg λR hR τ d=>?_);replace bl:=bl.tp τ d;generalize({wD with tape:=τ,drawn:=d}:World)=wE at bl⊢;simp only[aqF,amm,MW,Su,UZ,dm3,qJ,qo,uU,Tryz.f4,aB];go_wp2;exact Ez _ _ _ rfl bl
   .have ar0:¬((ct:Int)<(K:Int)):=ae;cases e;go_wp2;refine yI sW (b:=false) rfl ?_;refine F9 sW ?_;refine qx sW (rY qZ sW ag Qg λR hR τ d=>?_);replace bl:=bl.tp τ d;generalize({wD with tape:=τ,drawn:=d}:World)=wE at bl⊢;have hs:=uo bl
    have g1:BlS wE (some ⟨gb,0,none⟩) m ns Da vd:=⟨λh=>by obtain⟨b,o,e,hc⟩:=h1.cells h;exact⟨b,o,e,λi hi=>⟨hs.cell (hc i hi).1,hs.cell (hc i hi).2⟩⟩,λi hi=>hs.lies (h1.dat i hi)⟩
    have g2:BlS wE bo m ns Da va:=⟨λh=>by obtain⟨b,o,e,hc⟩:=h2.cells h;exact⟨b,o,e,λi hi=>⟨hs.cell (hc i hi).1,hs.cell (hc i hi).2⟩⟩,λi hi=>hs.lies (h2.dat i hi)⟩
    have kb:=VY m m cap (some ⟨gb,0,none⟩) bo ns Da vd va wE hm g1 g2;simp only[MW,Su,UZ,dm3,qJ,qo,uU,Tryz.f4,aB]
    go_wp2_with(first|(go_at_call 12;(with_reducible refine kb.mono ?_);rintro r w9 ⟨rfl,q,hw9⟩))
    refine Ez _ _ _ ?_ (bl.trans (sK.of (below_drewN (aA _ _) q)) bl.sH);rfl
end
end Go.Proofs.Y
namespace Go.Proofs.Y
open YtnbflnamlpodcaaGreatDoor
open Go.Proofs.Tryz
open Go.RowKit Go.Deep Go.Lf Go.Conc Go.ConcN Go.Gh Go.Hp
theorem anQ{w:World}{vr v5 v6:Value}{k n c z4:Int}{zr z5 z6:List Int}{a:Addr}(hr:IC w vr zr)(hlr:zr.length<9223372036854775807)(h5:IC w v5 z5)(hl5:z5.length<9223372036854775807)(h6:IC w v6 z6)(hl6:z6.length<9223372036854775807)(hk:Ie k)(hn:Ie n)(hc:Ie c)(h4:Ie z4)(hG:Gl a w):
  Ok prog (λv w'=>v=.bool true/\Kz w.heap.size w w') (solo (G (Frame.enter prog 4 #[vr,.int .i64 k,.int .i64 n,.int .i64 c,.int .i64 z4,v5,v6] .normal) []) w) #[]:=by
 have hP:=agv k n c;have hN:=Zk n;obtain⟨⟨q1,q2,q3⟩,q4,q5⟩:=id hP;obtain⟨Y,v,yJ,KP⟩:=Tf w (λ_=>False) (λb h=>h.elim);have QC:Sub w v:=⟨by rw[yJ.size];exact ak _,λb cc t fr h=>KP b cc t fr (λx=>x) h⟩;have hsz:w.heap.size=v.heap.size:=yJ.size
 have e:Frame.enter prog 4 #[vr,.int .i64 k,.int .i64 n,.int .i64 c,.int .i64 z4,v5,v6] .normal=(base 4).at ⟨#[vr,.int .i64 k,.int .i64 n,.int .i64 c,.int .i64 z4,v5,v6]++Array.replicate 144 undef,[]⟩ [.code uU]:=by rw[enter_at _ func4 (c:=uU) ag,show Tryz.f4.ntmps-(#[vr,.int .i64 k,.int .i64 n,.int .i64 c,.int .i64 z4,v5,v6]:Array Value).size=144 from by rw[ntmps4];rfl]
 rw[e]
 have NF:IE prog (vg λ_=>False) 0 #[G ((base 4).at ⟨#[vr,.int .i64 k,.int .i64 n,.int .i64 c,.int .i64 z4,v5,v6]++Array.replicate 144 undef,[]⟩ [.code uU]) []] w #[] (λ_=>0):=
  ajD (λop h=>jR) (λop h=>jR) (λop h=>jR) rfl
 let St:Goroutine->World->Prop:=λgr W=>∃T m f Dt pb vb v1,ajz (.int .i64 z4) v5 v6 pb vb T/\SmP (Wv k n) (Gq n) (cOf c) m f Dt pb vb v1/\sK v.heap.size v v1/\AtE (λ_=>False) Y (Wv k n) (Gq n) (cOf c) vb (ajB T) v1 gr W
 have key:=ajC (Stop:=St) (Y:=Y) (x4:=.int .i64 z4) (x5:=v5) (x6:=v6) (Bc (λ_=>False)) (hr.sub QC) hlr hk hn hc (λT m f Dt pb vb v1 hT1 Nw t_=>amh (Bc _) hT1 Nw λT' ZV y hy=>.stop λd=>⟨T',m,f,Dt,pb,vb,v1,ZV,Nw,t_,rfl,hy.at d⟩);refine late (Fin:=Ok prog _) (Shun:=vg λ_=>False) (e:=0) U1 (λ_ _ _ h=>h) (λgs1 a1 W1 sl1 t1 q1 h01 uw Iq=>?_) (key w yJ.t) w.drawn _ none #[] _ rfl NF;obtain⟨T,m,f,Dt,pb,vb,v1,hT1,Nw,t_,rfl,x9⟩:=uw W1.drawn;replace x9:qL (λ_=>False) Y W1 v1:=x9;clear key uw;have w_:=adC yJ.t x9 t_ (λb h=>h.elim);rw[<-hsz]at w_;obtain⟨bo,cap,rfl,O8⟩:=Nw.args;have hG1:Gl a v1:=(hG.sub QC).sub (uo t_);have h51:IC v1 v5 z5:=(h5.sub QC).sub (uo t_);have h61:IC v1 v6 z6:=(h6.sub QC).sub (uo t_);have hdl:∀j,j<m->(dOf Dt (f j)).length=(f j).l:=λj hj=>(O8.dat j hj).1
 have hNm:vV (qB m f):=(Xw (qN.refl m f) (ahv Nw.hm Nw.nm)).2 Nw.fits;have hFw:=ajE Nw.hm Nw.aqH (qN.refl m f);have acy:=λi hi=>aht (i:=i) (d:=dOf Dt) hP hNm hFw hdl hi
 have aoX:∀i,i<Gq n->qP (RS (zX (Wv k n) (Gq n) (cOf c) m f (dOf Dt) i))=.ok (IX (Wv k n) (Gq n) (cOf c) m f (dOf Dt) i):=λi hi=>by obtain⟨s1,s2,s3,s4,s5⟩:=acy i hi;have hp:=ahp s1 s2 s3 s4 s5 [];rw[dD,aj rfl]at hp;exact hp
 have hlen:∀i,i<Gq n->0<(RS (zX (Wv k n) (Gq n) (cOf c) m f (dOf Dt) i)).length/\(RS (zX (Wv k n) (Gq n) (cOf c) m f (dOf Dt) i)).length<=10000000000:=λi hi=>by obtain⟨s1,s2,s3,s4,s5⟩:=acy i hi;have:=anA s1 s3 s4;omega
 refine QO U1 h01 Iq x9 O8 hP Nw.fits (λg hR _=>ajE Nw.hm Nw.aqH hR) hG1.tab ae ?_;intro g1 bh Wg ov gs2 W2 sl2 t2 q2 Y2 v2 RJ ar1 h02 Ae zD Xy ajF ar2 aqI zC;have wH:=w_.trans (ar2.kz (h0:=w.heap.size) (λb h=>h.elim) w_.size)
 have hX1:∀b,(False\/b=Wg)->w.heap.size<=b:=λb h=>by
  rcases h with h|rfl
  .exact h.elim
  .exact aJ w_.size Xy
 have hgg:∀i,i<m->g1 i=f i:=abw Nw.fits (qN.refl m f) RJ (ahv Nw.hm Nw.nm) ar1;rw[ac9 hgg,ac_ hgg,XL m hgg]at zC
 have uK:∀i,i<Gq n->rG 0 v2 (ov i) (RS (zX (Wv k n) (Gq n) (cOf c) m f (dOf Dt) i)):=λi hi=>by rw[<-afz (d:=dOf Dt) ae ae ae];exact zC i hi
 have hS2:=Nw.sub ajF
 let St3:Goroutine->World->Prop:=λgr W=>∃(T3:Array Value)(bad b cp:Nat)(sv:Nat->Value)(sb:Nat->List UInt8)(v3:World),ajA pb (.slice bo m cap) bad (V9 bad (Gq n)).length (.slice (some ⟨b,0,none⟩) (Gq n) cp) T3/\bad<2^Gq n/\sK v2.heap.size v2 v3/\SlB v3 (some ⟨b,0,none⟩) (Gq n) sb sv/\(∀i,i<Gq n->YX bad i (RS (zX (Wv k n) (Gq n) (cOf c) m f (dOf Dt) i)) (sb i))/\gr=G ((base 11).at ⟨#[.slice (some ⟨b,0,none⟩) (Gq n) cp]++Array.replicate 55 undef,[]⟩ [.code yg]) [ae_ T3]/\qL (λb=>False\/b=Wg) Y2 W v3
 have alM:=aoR (Stop:=St3) (Y:=Y2) (w:=v2) (va:=.slice (some ⟨bh,0,none⟩) (Gq n) (Gq n)) (Bc (λb=>False\/b=Wg)) hT1 (λT2 VT=>aoU (Stop:=St3) (Bc _) VT hS2 (h51.sub ajF) hl5 (h61.sub ajF) hl6 h4 ae ae aqI uK hlen (λT3 bad b cp sv sb v3 a1 a2 a3 a4 a5=>aoS (Bc _) a1 λT' a1' y hy=>.stop λd=>⟨T',bad,b,cp,sv,sb,v3,a1',a2,a3,a4,a5,rfl,hy.at d⟩));refine late (Fin:=Ok prog _) (Shun:=vg (λb=>False\/b=Wg)) (e:=0+Gq n) U1 (λ_ _ _ h=>h) (λgs3 a3 W3 sl3 t3 q3 h03 uw Ny=>?_) (alM W2 zD) W2.drawn gs2 sl2 t2 q2 h02 Ae;obtain⟨T3,bad,b,cp,sv,sb,v3,hT3,Xd,vK,hSl,hHu,rfl,xu⟩:=uw W3.drawn;replace xu:qL (λb=>False\/b=Wg) Y2 W3 v3:=xu;clear alM uw;have hz3:=wH.trans (adC zD xu (h0:=w.heap.size) (vK.mono (by have:=t_.sH;have:=ajF.1;omega)) hX1);have Ll:=ajF.trans (uo vK);have hG3:=hG1.sub Ll;refine aaj U1 h03 Ny xu hSl ae hG3 ae ?_;intro e4 g4 vb4 er4 gv4 X4 VU W4 Yn t4 q4 Y4 v4 he4 hP4 atx ZR Ib hs4 hXa hXb Uu ar4 aqJ hR4;obtain⟨Xa,asU,O4⟩:=ait aoX (λi hi=>⟨(acy i hi).1,(acy i hi).2.2.1,(acy i hi).2.2.2.1⟩) hHu hdl ae hP4 hR4;have hz4:=hz3.trans (ar4.kz (h0:=w.heap.size) hX1 hz3.size);have hX4:∀b,X4 b->w.heap.size<=b:=λb hb=>(hXb b hb).elim (hX1 b) λh=>aJ hz3.size h
 have hS4:=(Nw.sub Ll).sub Uu;have hA4:YF v4 bo m cap f (dOf Dt):=(Ll.trans Uu).args O8;have hvs:v.heap.size<=v4.heap.size:=aJ t_.sH (Ll.trans Uu).1
 have hcs:((V9 bad (Gq n)).length<Wv k n/\er4=12/\vb4=.slice none 0 0)\/(Wv k n<=(V9 bad (Gq n)).length/\er4=0/\∃gb vd,vb4=.slice (some ⟨gb,0,none⟩) m m/\BlS v4 (some ⟨gb,0,none⟩) m (λi=>(f i).k) (λi=>dOf Dt (f i)) vd):=by
  rcases aQ (V9 bad (Gq n)).length (Wv k n)with h|h
  .exact .inl ⟨h,O4 h⟩
  .obtain⟨h1,gb,vd,h2,h3⟩:=asU h;exact .inr ⟨h,h1,gb,vd,h2,alc hdl h3⟩
 refine amo ZR Ib (ami (Bc X4) hT3 (λT7 hT7=>aoW (Bc X4) hT7 hS4.par (by have:=Nw.hm;omega) ae Xd aqJ Xa (alN hS4 hA4) hcs λT' kk w' h14 Ns=>?_) W4 hs4);refine agw (Bc _) func4 ag (y:=.bool true) (λu=>?_) (λu d amS VJ=>?_)
 .rw[Sem.runT_eq,lV (fn:=Tryz.f4) (t:=14) rfl _ _ _,events_results_tmp (fn:=Tryz.f4) (t:=14) rfl _ _,h14]
 .refine⟨rfl,#[],ai,λd'=>⟨.bool true,VJ d',rfl,?_⟩⟩;have:=adC hs4 amS (h0:=w.heap.size) (Ns.mono ae) hX4;exact hz4.trans ⟨this.os,this.output,this.size,this.block⟩
end Go.Proofs.Y
namespace Go.Proofs.Y
open YtnbflnamlpodcaaGreatDoor
open Go.Proofs.Tryz
open Go.RowKit
theorem am6:prog.globalNamed "cairn/sum.fourSteps" =some 2:=ag
theorem aqK:(prog.globals[2]?).map (·.type)=some 203:=ag
theorem aqL:prog.globalNamed "internal/strconv.uint64pow10" =some 4:=ag
theorem ar5:(prog.globals[4]?).map (·.type)=some 240:=ag
theorem ajG:prog.globalNamed "cairn/fault.TooEarly" =some 0:=ag
theorem aoY:(prog.globals[0]?).map (·.type)=some 59:=ag
theorem aqM:prog.globalNamed "errors.errorType" =some 1:=ag
theorem star: "*" ++ "errors.errorString" = "*errors.errorString" :=au
theorem amq(u:TypeId)(h:prog.typeName? 3 u=some "*errors.errorString"):u=247:=
 typeName_ptr_named (nm:= "errors.errorString") (by rw[star];kernel_rfl) ag au u (by rw[star];exact h)
theorem aqN:(prog.cutTypes.find? (·.1== "internal/reflectlite.rtype")).map (·.2)=some 191:=ag
theorem aoZ:prog.types.size=278:=ag
theorem ajH:((List.range 278).filter λt=>prog.rowNamed t [101,114,114,111,114])=[59]:=ag
theorem U2{L:List (String×DataW Unit)}{W:World}(h:laidMetH prog L W)(n:String)(d:DataW Unit)(hf:L.filter (λx=>x.1==n)=[(n,d)])(hn:d.handleName?.isNone=true):laidMet prog [(n,d)] W:=by have:=h.filter (λx=>x.1==n);rw[hf]at this;rwa[MakeChecks.laidMetH_plain _ _ _ (by simp[hn])]at this
theorem ahZ{W:World}(h:laidMetH prog Rows.anyRow.laid W):CQ W:=by
 have h1:=U2 h "cairn/sum.fourSteps" Rows.laid_cairn_sum_fourSteps ax ax
 have hT:Lib.TabIs prog W "cairn/sum.fourSteps" .u64 (FH.map λ(n:Nat)=>(n:Int)):=
  Lib.tabIs_of_head am6 aqK underlying203 underlying64 ag ag h1
 have hc:∀i,i<16->W.cell? ⟨2,i,none⟩=some (.int .u64 ((FH.getD i 0:Nat):Int)):=by intro i hi;have:=hT.cell am6 i (by simpa[FH]using hi);rw[this];simp only[aO,bV];cases FH[i]?<;>simp
 exact⟨rM (hc 0 ae),hc⟩
theorem ahY{W:World}(h:laidMetH prog Rows.anyRow.laid W):Pow W/\4<W.heap.size:=by have h1:=U2 h "internal/strconv.uint64pow10" Rows.laid_internal_strconv_uint64pow10 ax ax;have hT:Pow W:=Lib.tabIs_of_head aqL ar5 underlying240 underlying64 ag ag h1;exact⟨hT,rM (Lib.TabIs.cell hT aqL 0 au)⟩
theorem acV{W:World}(h:laidMetH prog Rows.anyRow.laid W):∃a,wQ W a:=by have h1:=U2 h "cairn/fault.TooEarly" Rows.laid_cairn_fault_TooEarly ax ax;obtain⟨a,s,hv,_⟩:=laid_sentinel h1 ajG aoY underlying59 amq underlying247 underlying267 rfl rfl underlying9 ag ag;exact⟨a,by unfold wQ;simpa using World.var?_cell ajG hv 0⟩
theorem afO{W:World}(h:laidMetH prog Rows.anyRow.laid W):CW W:=by
 have h':=(laidMetH_iff.1 h).2;obtain⟨name,u,ty,e1,e2,e3,e4,e5⟩:=h' ("errors.errorType",Rows.laid_errors_errorType) (List.mem_filter.2 ⟨by simp[Rows.anyRow],rfl⟩);have en:name=[101,114,114,111,114]:=(eU e1).symm;subst en;obtain rfl:=eU (aqN.symm.trans e2);have hm:ty∈(List.range 278).filter λt=>prog.rowNamed t [101,114,114,111,114]:=List.mem_filter.2 ⟨fK.2 (by rw[<-aoZ];exact e3),e4⟩
 rw[ajH]at hm;obtain rfl:=dR.1 hm;have hh:typeHandle prog 59=.pointer (some ⟨7,59,none⟩):=ag;rw[hh]at e5;unfold CW;simpa using World.var?_cell aqM e5 0
