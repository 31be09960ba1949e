import Derived.Test.YtnbflnamlpodcaaGreatDoorEnO
set_option maxHeartbeats 8000000
set_option maxRecDepth 100000
namespace Go.Proofs.Y
open Go.Proofs.Tryz
open Go.RowKit Go.Deep Go.Lf Go.Conc
noncomputable def Lt:Code:=Tryz.f31.body.getD .skip
noncomputable def wC5:Code:=qJ (qo (qo (qo (qo (qo Lt)))))
noncomputable def aa0:Code:=qo (qo (qo (qo (qo (qo Lt)))))
theorem sfW:∃fn,prog.funcs[31]?=some fn:=⟨_,func31⟩
def TWr(row lb:Nat)(T:Array Value):Prop:=∃f:Nat->Value,T=#[f 0,f 1,.pointer (some ⟨row,0,none⟩),f 3,f 4,f 5,.pointer (some ⟨lb,0,none⟩),f 7,f 8,f 9,f 10,f 11,f 12,f 13,f 14,f 15,f 16,f 17,f 18,f 19,f 20,f 21,f 22,f 23,f 24,f 25,f 26,f 27,f 28,f 29,f 30,f 31,f 32,f 33,f 34,f 35,f 36,f 37,f 38,f 39,f 40,f 41,f 42,f 43,f 44,f 45,f 46,f 47,f 48,f 49,f 50,f 51,f 52]
theorem adg{row lb:Nat}{T:Array Value}(h:T=#[T.getD 0 undef,T.getD 1 undef,.pointer (some ⟨row,0,none⟩),T.getD 3 undef,T.getD 4 undef,T.getD 5 undef,.pointer (some ⟨lb,0,none⟩),T.getD 7 undef,T.getD 8 undef,T.getD 9 undef,T.getD 10 undef,T.getD 11 undef,T.getD 12 undef,T.getD 13 undef,T.getD 14 undef,T.getD 15 undef,T.getD 16 undef,T.getD 17 undef,T.getD 18 undef,T.getD 19 undef,T.getD 20 undef,T.getD 21 undef,T.getD 22 undef,T.getD 23 undef,T.getD 24 undef,T.getD 25 undef,T.getD 26 undef,T.getD 27 undef,T.getD 28 undef,T.getD 29 undef,T.getD 30 undef,T.getD 31 undef,T.getD 32 undef,T.getD 33 undef,T.getD 34 undef,T.getD 35 undef,T.getD 36 undef,T.getD 37 undef,T.getD 38 undef,T.getD 39 undef,T.getD 40 undef,T.getD 41 undef,T.getD 42 undef,T.getD 43 undef,T.getD 44 undef,T.getD 45 undef,T.getD 46 undef,T.getD 47 undef,T.getD 48 undef,T.getD 49 undef,T.getD 50 undef,T.getD 51 undef,T.getD 52 undef]):TWr row lb T:=⟨λi=>T.getD i undef,h⟩
theorem UI{w w':World}(h:Below w.heap.size w w'):Kept w w':=⟨h.os,h.output,h.size,h.block⟩
theorem Kept.tape{w w':World}(h:Kept w w')(τ:Nat->Question->Nat)(d:Nat):Kept w {w' with tape:=τ,drawn:=d}:=⟨h.os,h.output,h.size,h.block⟩
theorem Kept.below{a b c:World}(h:Kept a b)(h':Below a.heap.size b c):Kept a c:=⟨h'.os.trans h.os,h'.output.trans h.output,aJ h.size h'.size,λx hx=>(h'.block x hx).trans (h.block x hx)⟩
theorem Kept.cell{w w':World}(h:Kept w w'){b o:Nat}{v:Value}(hc:w.cell? ⟨b,o,none⟩=some v):w'.cell? ⟨b,o,none⟩=some v:=by have hb:=rM hc;have e:=h.block b hb;simp only[World.cell?,e]at hc⊢;exact hc
theorem Kept.IW{w w':World}(h:Kept w w'){b o:Nat}{l:List UInt8}(hb:CS w b o l):CS w' b o l:=λj hj=>h.cell (hb j hj)
theorem Kept.tab{w w':World}(h:Kept w w')(ht:CQ w):CQ w':=⟨aK ht.1 h.size,λi hi=>h.cell (ht.2 i hi)⟩
section
variable {X:Nat->Prop}{Y:Nat->Option Obj}{D:Nat->World->Array Event->Prop}{Stop:Goroutine->World->Prop}{v:World}{cs:List Frame}
theorem aiS(hD:vw X D)(k n i c:Nat)(hk:k<=255)(hn:n<=255)(hi:i<=255)(hc:1<=c)(VD:c<=65536)(vN vS:Value)(bc:Option Addr)(len zN:Nat)(hlen:len<=65536)(gm aiT ml:Nat)(NJ:List UInt8)(hml:NJ.length=ml)(hm8:8<=ml)(hm:ml<=1000000)
  (afw:CS v gm 0 NJ) (_:gm<v.heap.size) (hT:CQ v)
  (qH:∀(T:Array Value)(lb g4 ZZ:Nat)(V:World),TWr v.heap.size lb T->v.heap.size<lb->lb<V.heap.size->Boxed V lb 34 (.slice (some ⟨g4,0,none⟩) (32+ml) ZZ)->rG v.heap.size V (.slice (some ⟨g4,0,none⟩) (32+ml) ZZ) (rf ([67,65,73,82,78,49]++([UInt8.ofNat k,UInt8.ofNat n,UInt8.ofNat i,0]++(uP 4 c++(uP 4 (ml-8)++(uP 4 len++[0,0])))))++NJ)->
   qf V v.heap.size [.int .i64 (k:Int),.int .i64 (n:Int),.int .i64 (i:Int),.int .i64 (c:Int),vN,vS,.slice bc len zN] 55->Kept v V->rD prog X Y D Stop none [] 31 cs [.code wC5,.code aa0] T V):
  rD prog X Y D Stop none [] 31 cs [.code Lt] (#[.agg #[.int .i64 (k:Int),.int .i64 (n:Int),.int .i64 (i:Int),.int .i64 (c:Int),vN,vS,.slice bc len zN],.slice (some ⟨gm,0,none⟩) ml aiT]++Array.replicate 51 undef) v:=by
 obtain⟨i0,Af,x_,w_,wH⟩:=bG Dc;obtain⟨f,ef⟩:∃f,(len+c-1)/c=f:=⟨_,rfl⟩;have hf:f<=len+c:=by rw[<-ef];exact aJ (Nat.div_le_self _ _) ae
 have hq:((len:Int)+(c:Int)-1)/(c:Int)=(f:Int):=by rw[show(len:Int)+(c:Int)-1=((len+c-1:Nat):Int)by omega,<-Int.natCast_ediv,ef]
 clear ef;have art:2<v.heap.size:=hT.1;unfold Lt;simp only[Tryz.f31,aB,cu,b_,bU,bY,bg,aV];refine qx hD (rY qK hD ag sfW λR hR τ d=>?_);go_wp2;change rD _ _ _ _ _ _ _ _ _ _ _ (v.alloc (.cells #[.int .i64 (k:Int),.int .i64 (n:Int),.int .i64 (i:Int),.int .i64 (c:Int),vN,vS,.slice bc len zN] 55));have L6:=qf.made v [.int .i64 (k:Int),.int .i64 (n:Int),.int .i64 (i:Int),.int .i64 (c:Int),vN,vS,.slice bc len zN] 55;have xq:Kept v (v.alloc (.cells #[.int .i64 (k:Int),.int .i64 (n:Int),.int .i64 (i:Int),.int .i64 (c:Int),vN,vS,.slice bc len zN] 55)):=UI ((aA v.heap.size v).alloc (ak _) _);have s0:(v.alloc (.cells #[.int .i64 (k:Int),.int .i64 (n:Int),.int .i64 (i:Int),.int .i64 (c:Int),vN,vS,.slice bc len zN] 55)).heap.size=v.heap.size+1:=ai;replace L6:qf (v.alloc (.cells #[.int .i64 (k:Int),.int .i64 (n:Int),.int .i64 (i:Int),.int .i64 (c:Int),vN,vS,.slice bc len zN] 55)) v.heap.size [.int .i64 (k:Int),.int .i64 (n:Int),.int .i64 (i:Int),.int .i64 (c:Int),vN,vS,.slice bc len zN] 55:=L6;generalize v.alloc (.cells #[.int .i64 (k:Int),.int .i64 (n:Int),.int .i64 (i:Int),.int .i64 (c:Int),vN,vS,.slice bc len zN] 55)=V0 at L6 xq s0⊢;refine qx hD (rY qK hD ag sfW λR hR τ d=>?_);have c3:=qf.cell (w:={V0 with tape:=τ,drawn:=d}) L6 (i:=3) rfl;have c6:=qf.cell (w:={V0 with tape:=τ,drawn:=d}) L6 (i:=6) rfl;go_wp2;change rD _ _ _ _ _ _ _ _ _ _ _ V0;clear c3 c6;refine qx hD (rY qK hD ag sfW λR hR τ d=>?_);have c6:=qf.cell (w:={V0 with tape:=τ,drawn:=d}) L6 (i:=6) rfl;have aos:qf {V0 with tape:=τ,drawn:=d} v.heap.size [.int .i64 (k:Int),.int .i64 (n:Int),.int .i64 (i:Int),.int .i64 (c:Int),vN,vS,.slice bc len zN] 55:=L6;have aot:Kept v {V0 with tape:=τ,drawn:=d}:=xq.tape τ d;have s0':({V0 with tape:=τ,drawn:=d}:World).heap.size=v.heap.size+1:=s0;generalize({V0 with tape:=τ,drawn:=d}:World)=V1 at c6 aos aot s0'⊢;obtain⟨w0,hmk,ho0,hg0⟩:=run_make_own (P:=prog) V1 v.heap.size 34 5 i0 (.int .u8 0) 1 underlying34 Af x_ w_ .i64 .i64 (32+ml+len+f*8+4) fU bH ae;have ani:((32+ml+len+f*8+4:Nat):Int)=32+(ml:Int)+(len:Int)+(f:Int)*8+4:=ae;rw[ani]at hmk;rw[s0']at hmk ho0;clear ani;obtain⟨CP,eCP⟩:∃CP,32+ml+len+f*8+4=CP:=⟨_,rfl⟩;rw[eCP]at hmk ho0;clear eCP;have xW:qf w0 v.heap.size [.int .i64 (k:Int),.int .i64 (n:Int),.int .i64 (i:Int),.int .i64 (c:Int),vN,vS,.slice bc len zN] 55:=(hg0.block v.heap.size ae ai).trans aos;have hO0:rG v.heap.size w0 (.slice (some ⟨v.heap.size+1,0,none⟩) 0 CP) []:=rG.of ho0;have t_:Kept v w0:=aot.below ((aA v.heap.size V1).grown hg0 ae (λk hk=>by cases hk));have NC:v.heap.size<w0.heap.size:=by have:=hg0.size;omega
 have hL1:=Boxed.new w0 34 (.slice (some ⟨v.heap.size+1,0,none⟩) 0 CP);have UB:=hO0.alloc (.cells #[.slice (some ⟨v.heap.size+1,0,none⟩) 0 CP] 34);have sZ:Kept v (w0.alloc (.cells #[.slice (some ⟨v.heap.size+1,0,none⟩) 0 CP] 34)):=t_.below ((aA v.heap.size w0).alloc ae _);have Gy:qf (w0.alloc (.cells #[.slice (some ⟨v.heap.size+1,0,none⟩) 0 CP] 34)) v.heap.size [.int .i64 (k:Int),.int .i64 (n:Int),.int .i64 (i:Int),.int .i64 (c:Int),vN,vS,.slice bc len zN] 55:=xW.AV ((yP.refl _).alloc _) au;have zD:w0.heap.size<(w0.alloc (.cells #[.slice (some ⟨v.heap.size+1,0,none⟩) 0 CP] 34)).heap.size:=ai;clear hg0 ho0 hO0 xW aos t_ aot;go_wp2;clear hmk c6;generalize w0.alloc (.cells #[.slice (some ⟨v.heap.size+1,0,none⟩) 0 CP] 34)=V2 at hL1 UB sZ Gy zD⊢;generalize w0.heap.size=lb at*;refine qx hD (rY qK hD ag sfW λR hR τ d=>?_);replace hL1:Boxed {V2 with tape:=τ,drawn:=d} lb 34 _:=hL1;replace UB:rG v.heap.size {V2 with tape:=τ,drawn:=d} _ _:=UB;replace Gy:qf {V2 with tape:=τ,drawn:=d} v.heap.size _ 55:=Gy;replace sZ:Kept v {V2 with tape:=τ,drawn:=d}:=sZ.tape τ d;replace zD:lb<({V2 with tape:=τ,drawn:=d}:World).heap.size:=zD;generalize({V2 with tape:=τ,drawn:=d}:World)=V3 at*;have c0:=Gy.cell (i:=0) rfl;have c1:=Gy.cell (i:=1) rfl;have c2:=Gy.cell (i:=2) rfl;have c3:=Gy.cell (i:=3) rfl;have c4:=Gy.cell (i:=4) rfl;have c5:=Gy.cell (i:=5) rfl;have c6:=Gy.cell (i:=6) rfl;have cL:=hL1.cell;have hM8:(ml:Int)-8=((ml-8:Nat):Int):=ae;have K1:=aaY v.heap.size _ k n i c hk hn hi VD vN vS bc len zN ae ((ml:Int)-8) (ml-8) hM8 ae _ UB sZ.size (sZ.tab hT) art;clear hM8;obtain⟨H,eH⟩:∃H,rf ([67,65,73,82,78,49]++([UInt8.ofNat k,UInt8.ofNat n,UInt8.ofNat i,0]++(uP 4 c++(uP 4 (ml-8)++(uP 4 len++[0,0])))))=H:=⟨_,rfl⟩
 have hHl:Hid (H.length=32):=by show _=_;rw[<-eH,sO];simp[qU]
 rw[eH]at K1 qH;clear eH
 go_wp2_with(first|(go_at_call 54;(with_reducible refine K1.mono ?_);clear K1;rintro r w2 ⟨v2,rfl,ND,vK,O3⟩;obtain⟨g2,La,rfl,_,_,_,_,_⟩:=Aq ND (by have:=hHl.out;omega);have hL2:Boxed w2 lb 34 _:=O3.same _ _ hL1 rfl;have cL2:=hL2.cell;have fL2:=hL2.frozen))
 have hr3:=(Gy.AV O3 au).aqe (lb:=lb) ae (.slice (some ⟨g2,0,none⟩) H.length La);have hO3:=ND.set hL2 (.slice (some ⟨g2,0,none⟩) H.length La);have VX:=hL2.set (.slice (some ⟨g2,0,none⟩) H.length La);have hb4:Kept v (w2.setCell ⟨lb,0,none⟩ (.slice (some ⟨g2,0,none⟩) H.length La)):=(sZ.below vK).below ((aA v.heap.size w2).setCell (p:=⟨lb,0,none⟩) pg _);have xu:lb<(w2.setCell ⟨lb,0,none⟩ (.slice (some ⟨g2,0,none⟩) H.length La)).heap.size:=by rw[atU];exact aK zD vK.size
 clear c0 c1 c2 c3 c4 c5 c6 cL Gy hL1 UB ND vK sZ O3 hL2 cL2 fL2 zD;generalize w2.setCell ⟨lb,0,none⟩ (.slice (some ⟨g2,0,none⟩) H.length La)=V4 at*;refine qx hD (rY qK hD ag sfW λR hR τ d=>?_);replace VX:Boxed {V4 with tape:=τ,drawn:=d} lb 34 _:=VX;replace hO3:rG v.heap.size {V4 with tape:=τ,drawn:=d} _ _:=hO3;replace hr3:qf {V4 with tape:=τ,drawn:=d} v.heap.size _ 55:=hr3;replace hb4:Kept v {V4 with tape:=τ,drawn:=d}:=hb4.tape τ d;replace xu:lb<({V4 with tape:=τ,drawn:=d}:World).heap.size:=xu;generalize({V4 with tape:=τ,drawn:=d}:World)=V5 at*;have cL:=VX.cell;have hM5:=hb4.IW afw;obtain⟨M4,eM4⟩:∃M4,H++NJ=M4:=⟨_,rfl⟩;have hM4:Hid (H++NJ=M4):=eM4
 have aqf:Hid (M4.length=32+ml):=by show _=_;rw[<-eM4,aS,hHl.out,hml]
 rw[eM4]at qH;clear eM4
 go_wp2_with(first|(at_builtin;refine dG _ rfl _ _ 34 rfl v.heap.size 5 i0 (.int .u8 0) 1 1 underlying34 Af x_ w_ wH rfl au _ _ _ rfl hO3 ⟨gm,0,none⟩ ml aiT (r_ NJ) rfl (by rw[sN];omega) hM5.news (EK _) (by have:=hHl.out;unfold maxLen;omega) (by have:=hHl.out;omega) hb4.size ?_;intro v4 w4 aru akN _;have hO4:rG v.heap.size w4 v4 M4:=hM4.out▸rG.more aru rfl;have hk4:=hO3.keeps akN;have RF:=hb4.below (hO3.grown akN hb4.size);obtain⟨g4,ZZ,e4,_,_,_,_,_⟩:=Aq hO4 (by have:=aqf.out;omega);rw[aqf.out]at e4;subst e4;have hL4:Boxed w4 lb 34 _:=hk4.same _ _ VX rfl;have cL4:=hL4.cell;have fL4:=hL4.frozen))
 have hr5:=(hr3.AV hk4 au).aqe (lb:=lb) ae (.slice (some ⟨g4,0,none⟩) (32+ml) ZZ);have hO5:=hO4.set hL4 (.slice (some ⟨g4,0,none⟩) (32+ml) ZZ);have hL5:=hL4.set (.slice (some ⟨g4,0,none⟩) (32+ml) ZZ);have hb6:Kept v (w4.setCell ⟨lb,0,none⟩ (.slice (some ⟨g4,0,none⟩) (32+ml) ZZ)):=RF.below ((aA v.heap.size w4).setCell (p:=⟨lb,0,none⟩) pg _);refine qx hD (qH _ lb g4 ZZ _ (adg rfl) ae (by rw[atU];exact aK xu hk4.size) hL5 hO5 hr5 hb6)
end
noncomputable def qw5:{x:Array Oper//x=uk (qJ wC5)}:=⟨_,by(simp only[wC5,Lt,qJ,qo,uk,Tryz.f31,aB];rfl)⟩
noncomputable def qw9:{x:Array Oper//x=uk (qJ aa0)}:=⟨_,by(simp only[aa0,Lt,qJ,qo,uk,Tryz.f31,aB];rfl)⟩
noncomputable def wO5:Array Oper:=qw5.1
noncomputable def wO9:Array Oper:=qw9.1
noncomputable def wAs:Code:=gAs (Pg (qo wC5))
noncomputable def wBd:Code:=gRd (Pg (qo wC5))
theorem aou:wC5=.seq (.region 5 wO5 false) (.block 0 (.rangeFunc (.tmp 43) #[44] wAs wBd)):=ag
theorem aiU:aa0=.seq (.region 9 wO9 false) .ret:=ag
theorem aiV:wO5.size=5:=ag
def TWx(row lb:Nat)(x:Value)(T:Array Value):Prop:=∃f:Nat->Value,T=#[f 0,f 1,.pointer (some ⟨row,0,none⟩),f 3,f 4,f 5,.pointer (some ⟨lb,0,none⟩),f 7,f 8,f 9,f 10,f 11,f 12,f 13,f 14,f 15,f 16,f 17,f 18,f 19,f 20,f 21,f 22,f 23,f 24,f 25,f 26,f 27,f 28,f 29,f 30,f 31,f 32,f 33,f 34,f 35,f 36,f 37,f 38,f 39,f 40,f 41,f 42,f 43,x,f 45,f 46,f 47,f 48,f 49,f 50,f 51,f 52]
theorem aov{row lb:Nat}{x:Value}{T:Array Value}(h:T=#[T.getD 0 undef,T.getD 1 undef,.pointer (some ⟨row,0,none⟩),T.getD 3 undef,T.getD 4 undef,T.getD 5 undef,.pointer (some ⟨lb,0,none⟩),T.getD 7 undef,T.getD 8 undef,T.getD 9 undef,T.getD 10 undef,T.getD 11 undef,T.getD 12 undef,T.getD 13 undef,T.getD 14 undef,T.getD 15 undef,T.getD 16 undef,T.getD 17 undef,T.getD 18 undef,T.getD 19 undef,T.getD 20 undef,T.getD 21 undef,T.getD 22 undef,T.getD 23 undef,T.getD 24 undef,T.getD 25 undef,T.getD 26 undef,T.getD 27 undef,T.getD 28 undef,T.getD 29 undef,T.getD 30 undef,T.getD 31 undef,T.getD 32 undef,T.getD 33 undef,T.getD 34 undef,T.getD 35 undef,T.getD 36 undef,T.getD 37 undef,T.getD 38 undef,T.getD 39 undef,T.getD 40 undef,T.getD 41 undef,T.getD 42 undef,T.getD 43 undef,x,T.getD 45 undef,T.getD 46 undef,T.getD 47 undef,T.getD 48 undef,T.getD 49 undef,T.getD 50 undef,T.getD 51 undef,T.getD 52 undef]):TWx row lb x T:=⟨λi=>T.getD i undef,h⟩
theorem al4{row lb:Nat}{T:Array Value}(h:TWr row lb T)(x:Value):TWx row lb x (T.setIfInBounds 44 x):=by obtain⟨f,rfl⟩:=h;exact aov rfl
noncomputable def lpR(T:Array Value)(D:Nat)(s:LoopState):Loop:={state:=s,pending:=none,fn:=31,tmps:=T,params:=#[44],assign:=wAs,body:=wBd,defers:=D}
structure LW(v:World)(lb sb nb D l:Nat)(ba:Option Addr)(len cap c:Nat)(M:List UInt8)(qy:List UInt8)(T:Array Value)(st:LoopState)(j:Nat)(W:World):Prop where
 lst:∃y,Boxed W lb 34 y/\rG v.heap.size W y (M++rO c qy j)
 s:Boxed W sb 34 (.slice ba len cap)
 n:Boxed W nb 3 (.int .i64 (c:Int))
 lp:W.heap[l]?=some (.loop (lpR T D st))
 df:W.heap[D]?=some (.deferred (some []))
 kept:Kept v W
section
variable {v:World}{lb sb nb D l:Nat}{ba:Option Addr}{len cap c:Nat}{M qy:List UInt8}{T:Array Value}{st st':LoopState}{j:Nat}{W:World}
theorem LW.tape(h:LW v lb sb nb D l ba len cap c M qy T st j W)(τ:Nat->Question->Nat)(d:Nat):LW v lb sb nb D l ba len cap c M qy T st j {W with tape:=τ,drawn:=d}:=⟨h.lst,h.s,h.n,h.lp,h.df,h.kept.tape τ d⟩
theorem P5{W:World}{B r:Nat}{t:TypeId}{u:Value}{o:Obj}(h:Boxed W B t u)(hr:B≠r):Boxed (W.putObj r o) B t u:=(World.putObj_heap_other hr).trans h
theorem LW.put(h:LW v lb sb nb D l ba len cap c M qy T st j W)(hv:v.heap.size<=l)(h1:lb≠l)(h2:sb≠l)(h3:nb≠l)(h4:D≠l):LW v lb sb nb D l ba len cap c M qy T st' j (W.putObj l (.loop (lpR T D st'))):=by have qE:=(bf.1 h.lp).1;obtain⟨y,hy,hO⟩:=h.lst;exact⟨⟨y,P5 hy h1,ownsRow_putObj hO _ h.lp rfl⟩,P5 h.s h2,P5 h.n h3,World.putObj_heap_same qE,(World.putObj_heap_other h4).trans h.df,⟨h.kept.os,h.kept.output,by rw[World.putObj_size];exact h.kept.size,λb hb=>(World.putObj_heap_other ae).trans (h.kept.block b hb)⟩⟩
end
section
variable {X:Nat->Prop}{Y:Nat->Option Obj}{D:Nat->World->Array Event->Prop}{Stop:Goroutine->World->Prop}{v:World}{cs:List Frame}{PZ:Frame}
theorem aiW(hD:vw X D){lb sb nb Df l b off len cap c row:Nat}{M qy:List UInt8}{T:Array Value}{ba:Option Addr}(hTW:TWr row lb T)(hc:1<=c)(VD:c<=65536)(hlen:len<=65536)(KP:qy.length=len)(hM:M.length<=2000000)(hT:CQ v)(hby:CS v b off qy)
  (L_:v.heap.size<lb) (h1:lb<sb) (h2:sb<nb) (h3:nb<Df) (h4:Df<l) (hO:UH X Y l) (j:Nat) (W:World) (hj:j*c<len) (hI:LW v lb sb nb Df l ba len cap c M qy T .ready j W)
  (qH:∀v',LW v lb sb nb Df l ba len cap c M qy T .ready (j+1) v'->∀w,qL X Y w v'->rV prog D Stop (G (PZ.finish (.bool true)) cs) w):
  rD prog X Y D Stop (some l) [] 31 (PZ::cs) [.code wAs,.beginRound,.code wBd] (T.setIfInBounds 44 (UG b off len c j)) W:=by
 obtain⟨i0,Af,x_,w_,wH⟩:=bG Dc;obtain⟨f,hTx⟩:=al4 hTW (UG b off len c j);rw[hTx];clear hTx;unfold wAs wC5 Lt;simp only[gAs,Pg,qJ,qo,Tryz.f31,aB];refine rY qK hD ag sfW λR hR τ d=>?_
 go_wp2;change rD _ _ _ _ _ _ _ _ _ _ _ W;refine adh hD hI.lp rfl hO ?_;change rD _ _ _ _ _ _ _ _ _ _ _ (W.putObj l (.loop (lpR T Df .busy)));have hI1:LW v lb sb nb Df l ba len cap c M qy T .busy j (W.putObj l (.loop (lpR T Df .busy))):=hI.put ae ae ae ae ae;clear hI;generalize W.putObj l (.loop (lpR T Df .busy))=W1 at*;unfold wBd wC5 Lt;simp only[gRd,Pg,qJ,qo,Tryz.f31,aB];refine rY qK hD ag sfW λR hR τ d=>?_
 replace hI1:=hI1.tape τ d;generalize({W1 with tape:=τ,drawn:=d}:World)=W2 at*;obtain⟨⟨y,hv,UB⟩,hsB,hnB,hlp,hdf,hK⟩:=hI1;have hjn:j<GI c len:=(PV hc).2 hj
 have hLb:(M++rO c qy j).length<=10000000000:=by
  have h5:(rO c qy j).length<=j*(c+8):=by
   have:=PY [] c qy (len:=len) ((List.range j).attach.map λx=>⟨x.1,by
    have:=fK.1 x.2;exact(PV hc).1 ae⟩)
   rw[aiN [] c qy _ j avC]at this;exact aww
  have h6:j*1<=j*c:=l_ _ hc;have h7:j*(c+8)<=65536*(65536+8):=jK ae ae;rw[aS];omega
 have atr:CQ W2:=hK.tab hT;have art:2<v.heap.size:=hT.1
 have hfB:Hid (xK c qy j=rf (part qy (j*c) (min c (len-j*c)))):=by show _=_;unfold xK;rw[KP]
 have LS:Hid (M++rO c qy (j+1)=(M++rO c qy j)++xK c qy j):=by show _=_;rw[xI,dU]
 have hfl:(part qy (j*c) (min c (len-j*c))).length=min c (len-j*c):=qF ae;have hfv:CS v b (off+j*c) (part qy (j*c) (min c (len-j*c))):=hby.part ae;have JS:=hK.IW hfv;have ZT:b<v.heap.size:=rM (hby 0 ae);unfold UG;obtain⟨L,eL⟩:∃L,M++rO c qy j=L:=⟨_,rfl⟩;obtain⟨p,ep⟩:∃p,j*c=p:=⟨_,rfl⟩;simp only[eL,ep]at UB hLb LS hfB hfl JS hfv hj⊢;obtain⟨m,em⟩:∃m,min c (len-p)=m:=⟨_,rfl⟩;have hm1:1<=m:=ae;have hm2:m<=65536:=ae;simp only[em]at hfB hfl JS hfv⊢;obtain⟨fr,efr⟩:∃fr,part qy p m=fr:=⟨_,rfl⟩;simp only[efr]at hfB hfl JS hfv;clear eL ep em efr;have hc0:=hv.cell
 have Ez:∀(W3:World)(y3:Value)(L3:List UInt8),Hid (L3=L++xK c qy j)->Boxed W3 lb 34 y3->rG v.heap.size W3 y3 L3->Boxed W3 sb 34 (.slice ba len cap)->Boxed W3 nb 3 (.int .i64 (c:Int))->W3.heap[l]?=some (.loop (lpR T Df .busy))->W3.heap[Df]?=some (.deferred (some []))->Kept v W3->∀T',rD prog X Y D Stop (some l) [] 31 (PZ::cs) [] T' W3:=λW3 y3 L3 e a1 a2 a3 a4 a5 a6 a7 T'=>
  aiX hD a5 hO (qH _ (LW.put ⟨⟨y3,a1,by rw[LS.out,<-e.out];exact a2⟩,a3,a4,a5,a6,a7⟩ ae ae ae ae ae))
 clear qH
 go_wp2_with(first
  |(at_builtin;refine dG _ rfl _ _ 34 rfl v.heap.size 5 i0 (.int .u8 0) 1 1 underlying34 Af x_ w_ wH rfl au _ _ _ rfl UB ⟨b,off+p,none⟩ m m (r_ fr) rfl (by rw[sN];omega) JS.news (EK _) bH ae hK.size ?_;intro v1 w1 GG BG _;have ND:rG v.heap.size w1 v1 (L++fr):=rG.more GG rfl;have JR:=UB.keeps BG;have hK1:=hK.below (UB.grown BG hK.size);obtain⟨L1,eL1⟩:∃L1,L++fr=L1:=⟨_,rfl⟩;have EL1:Hid (L++fr=L1):=eL1;have att:L1.length<=20000000000:=av9;have arU:0<L1.length:=av9;rw[eL1]at ND;clear eL1;obtain⟨g1,aem,rfl,_,_,_,_,_⟩:=Aq ND arU;have hv1:Boxed w1 lb 34 _:=JR.same _ _ hv rfl;have e1:=hv1.cell;have e2:=hv1.frozen
    have hO3:=ND.set hv1 (.slice (some ⟨g1,0,none⟩) L1.length aem);have hv2:=hv1.set (.slice (some ⟨g1,0,none⟩) L1.length aem);have hK2:=hK1.below ((aA v.heap.size w1).setCell (p:=⟨lb,0,none⟩) pg (.slice (some ⟨g1,0,none⟩) L1.length aem));have zD:=Boxed.other (JR.same _ _ hsB rfl:Boxed w1 sb 34 _) (B':=lb) ae (.slice (some ⟨g1,0,none⟩) L1.length aem);have hn2:=Boxed.other (JR.same _ _ hnB rfl:Boxed w1 nb 3 _) (B':=lb) ae (.slice (some ⟨g1,0,none⟩) L1.length aem);have arV:=(KeepsOthers.setCell w1 ⟨lb,0,none⟩ (.slice (some ⟨g1,0,none⟩) L1.length aem)).same _ _ (JR.same _ _ hlp rfl) rfl;have arW:=(KeepsOthers.setCell w1 ⟨lb,0,none⟩ (.slice (some ⟨g1,0,none⟩) L1.length aem)).same _ _ (JR.same _ _ hdf rfl) rfl;have hf2:=hK2.IW hfv;have K2:=Uz v.heap.size _ L1 ae _ hO3 hK2.size b (off+p) m fr ae hf2 (hK2.tab hT);rw[hfl]at K2;clear GG BG ND JR JS)
  |(go_at_call 46;(with_reducible refine K2.mono ?_);clear K2;rintro r w3 ⟨v3,rfl,hO4,vK,hk3⟩;obtain⟨L3,eL3⟩:∃L3,L1++uP 8 (sumOf fr)=L3:=⟨_,rfl⟩;have EL3:Hid (L1++uP 8 (sumOf fr)=L3):=eL3;have arX:0<L3.length:=(by rw[<-eL3,aS];omega);rw[eL3]at hO4;clear eL3;obtain⟨g3,atG,rfl,_,_,_,_,_⟩:=Aq hO4 arX;have hv3:Boxed w3 lb 34 _:=hk3.same _ _ hv2 rfl;have e3:=hv3.cell;have e4:=hv3.frozen))
 refine Ez _ _ L3 ?_ (hv3.set _) (hO4.set hv3 _) (Boxed.other (hk3.same _ _ zD rfl:Boxed w3 sb 34 _) ae _) (Boxed.other (hk3.same _ _ hn2 rfl:Boxed w3 nb 3 _) ae _) ((KeepsOthers.setCell w3 _ _).same _ _ (hk3.same _ _ arV rfl) rfl) ((KeepsOthers.setCell w3 _ _).same _ _ (hk3.same _ _ arW rfl) rfl) ((hK2.below vK).below ((aA v.heap.size w3).setCell (p:=⟨lb,0,none⟩) pg _)) _;show L3=_;rw[hfB.out,<-EL3.out,<-EL1.out];unfold rf;rw[dU]
end
section
variable {X:Nat->Prop}{Y:Nat->Option Obj}{D:Nat->World->Array Event->Prop}{Stop:Goroutine->World->Prop}{v:World}{cs:List Frame}{PZ:Frame}
theorem aow(T:Array Value)(Df:Nat)(st:LoopState)(x:Value):((lpR T Df st).params.zip #[x]).foldl (λtmps (t,a)=>tmps.setIfInBounds t a) (lpR T Df st).tmps=T.setIfInBounds 44 x:=by simp[lpR]
theorem aox(hD:vw X D){lb sb nb Df l len cap c row:Nat}{M qy:List UInt8}{T:Array Value}{ba:Option Addr}(hTW:TWr row lb T)(hc:1<=c)(VD:c<=65536)(hlen:len<=65536)(hM:M.length<=2000000)
  (L_:v.heap.size<lb) (h1:lb<sb) (h2:sb<nb) (h3:nb<Df) (h4:Df<l) (hO:UH X Y l) (hOD:UH X Y Df) (W:World) (hI:LW v lb sb nb Df l ba len cap c M qy T .ready (GI c len) W)
  (qH:∀y v',rG v.heap.size v' y (M++rO c qy (GI c len)++[68,79,78,69])->Kept v v'->∀w,qL X Y w v'->rV prog D Stop (G (PZ.finish y) cs) w):
  rD prog X Y D Stop none [{target:=.collected Df,args:=#[]}] 31 (PZ::cs) [.endRangeFunc l,.inBlock 0,.code aa0] T W:=by
 obtain⟨i0,Af,x_,w_,wH⟩:=bG Dc;refine We hD hI.lp rfl rfl hO ?_;change rD _ _ _ _ _ _ _ _ _ _ _ (W.putObj l (.loop (lpR T Df .exhausted)));have hI1:=hI.put (st':=.exhausted) ae ae ae ae ae;clear hI;generalize W.putObj l (.loop (lpR T Df .exhausted))=W1 at*;obtain⟨f,rfl⟩:=hTW;rw[aiU];refine GN hD (qx hD (rY qK hD ag sfW λR hR τ d=>?_));replace hI1:=hI1.tape τ d;generalize({W1 with tape:=τ,drawn:=d}:World)=W2 at*;obtain⟨⟨y,hv,UB⟩,_,_,_,hdf,hK⟩:=hI1
 have hLb:(M++rO c qy (GI c len)).length<=10000000000:=by
  have h5:(rO c qy (GI c len)).length<=GI c len*(c+8):=by have:=PY [] c qy (len:=len) ((List.range (GI c len)).attach.map λx=>⟨x.1,(PV hc).1 (fK.1 x.2)⟩);rw[aiN [] c qy _ (GI c len) avC]at this;exact aww
  have h6:GI c len<=len+1:=by unfold GI;have:(len+c-1)/c<=(len*c+c)/c:=Nat.div_le_div_right (by have:len*1<=len*c:=l_ _ hc;omega);rw[<-fD,Nat.mul_div_cancel _ ae]at this;omega
  have h7:GI c len*(c+8)<=65537*(65536+8):=jK ae ae;rw[aS];omega
 generalize M++rO c qy (GI c len)=L at*;have hc0:=hv.cell;simp only[wO9,qw9]
 go_wp2_with(first|(at_builtin;refine Lib.wpList_append_own_string _ rfl _ _ 34 9 rfl v.heap.size 5 i0 underlying34 underlying9 Af x_ w_ wH _ _ _ rfl UB ⟨#[68,79,78,69]⟩ rfl (by show _+4<=maxLen;unfold maxLen;omega) (by show _+4<=_;omega) hK.size ?_;intro v9 w9 aqg aiY _;have hO9:rG v.heap.size w9 v9 (L++[68,79,78,69]):=rG.more aqg rfl;have hk9:=UB.keeps aiY;have hK9:=hK.below (UB.grown aiY hK.size)))
 have aqh:w9.heap[Df]?=some (.deferred (some [])):=hk9.same _ _ hdf rfl;refine aiZ hD func31 aqh hOD (λτ d=>lV (fn:=Tryz.f31) (t:=4) rfl _ _ _) ?_;exact qH v9 _ (ownsRow_putObj hO9 _ aqh rfl) ⟨hK9.os,hK9.output,by rw[World.putObj_size];exact hK9.size,λb hb=>(World.putObj_heap_other ae).trans (hK9.block b hb)⟩
theorem af7(hD:vw X D)(k n i c:Nat)(hk:k<=255)(hn:n<=255)(hi:i<=255)(hc:1<=c)(VD:c<=65536)(vN vS:Value)(bc:Option Addr)(len zN:Nat)(qy:List UInt8)(KP:qy.length=len)(hlen:len<=65536)(gm aiT ml:Nat)(NJ:List UInt8)(hml:NJ.length=ml)(hm8:8<=ml)(hm:ml<=1000000)
  (xP:qR v (.slice bc len zN) (r_ qy)) (afw:CS v gm 0 NJ) (hgm:gm<v.heap.size) (hT:CQ v)
  (qH:∀y v',rG v.heap.size v' y (rf ([67,65,73,82,78,49]++([UInt8.ofNat k,UInt8.ofNat n,UInt8.ofNat i,0]++(uP 4 c++(uP 4 (ml-8)++(uP 4 len++[0,0])))))++NJ++rO c qy (GI c len)++[68,79,78,69])->Kept v v'->∀w,qL X Y w v'->rV prog D Stop (G (PZ.finish y) cs) w):
  rD prog X Y D Stop none [] 31 (PZ::cs) [.code Lt] (#[.agg #[.int .i64 (k:Int),.int .i64 (n:Int),.int .i64 (i:Int),.int .i64 (c:Int),vN,vS,.slice bc len zN],.slice (some ⟨gm,0,none⟩) ml aiT]++Array.replicate 51 undef) v:=by
 obtain⟨b,off,hba,hby⟩:∃b off,(0<len->bc=some ⟨b,off,none⟩)/\CS v b off qy:=by
  obtain⟨ba,aco,e,_,hh⟩:=xP;injection e with e1 e2 e3;subst e1;rcases dK len with h0|h0
  .exact⟨0,0,λh=>ae,λj hj=>ae⟩
  .obtain⟨b,off,e4,_⟩:=hh 0 _ (wR ae);refine⟨b,off,λ_=>e4,λj hj=>?_⟩;obtain⟨b',ahd,e5,h5⟩:=hh j _ (wR hj);rw[e4]at e5;injection e5 with e5;injection e5 with e6 e7;subst e6 e7;exact h5
 have aqi:len<=zN:=by obtain⟨ba,aco,e,h,_⟩:=xP;injection e with e1 e2 e3;rw[sN]at h;omega
 refine aiS hD k n i c hk hn hi hc VD vN vS bc len zN hlen gm aiT ml NJ hml hm8 hm afw hgm hT λT lb g4 ZZ V hTW L_ atu hL hO SS hK=>?_
 obtain⟨M,eM⟩:∃M,rf ([67,65,73,82,78,49]++([UInt8.ofNat k,UInt8.ofNat n,UInt8.ofNat i,0]++(uP 4 c++(uP 4 (ml-8)++(uP 4 len++[0,0])))))++NJ=M:=⟨_,rfl⟩
 have hMl:M.length<=2000000:=by rw[<-eM,aS,sO,hml];simp only[aS,qU,bQ,dB];omega
 rw[eM]at qH hO;clear eM;rw[aou];refine qx hD (BV hD ?_);rw[aiV];simp only[List.range,List.range.loop];obtain⟨f,rfl⟩:=hTW;refine qw qK hD (.pointer (some ⟨v.heap.size,6,none⟩)) lg rfl ag (λz _=>aN) ?_;walk_nrm;refine qw qK hD (.slice bc len zN) lg rfl ag (λz hz=>by have c6:=qf.cell (w:=z) (show z.heap[v.heap.size]?=_ by rw[hz];exact SS) (i:=6) rfl;go_simp) ?_;walk_nrm;refine qw qK hD (.pointer (some ⟨v.heap.size,3,none⟩)) lg rfl ag (λz _=>aN) ?_;walk_nrm;refine qw qK hD (.int .i64 (c:Int)) lg rfl ag (λz hz=>by have c3:=qf.cell (w:=z) (show z.heap[v.heap.size]?=_ by rw[hz];exact SS) (i:=3) rfl;go_simp) ?_;walk_nrm;refine xH hD lg rfl ax func55 ag (c:=aiO) ag (vs:=#[.slice bc len zN,.int .i64 (c:Int)]) (n:=7) fQ ag ?_;refine aor hD bc len zN c hc ?_;rw[wU lg];show rD _ _ _ _ _ _ _ _ _ _ _ _;walk_nrm;have hL2:=(hL.alloc (.cells #[.slice bc len zN] 34)).alloc (.cells #[.int .i64 (c:Int)] 3);have ND:=(hO.alloc (.cells #[.slice bc len zN] 34)).alloc (.cells #[.int .i64 (c:Int)] 3);have hS2:=(Boxed.new V 34 (.slice bc len zN)).alloc (.cells #[.int .i64 (c:Int)] 3);have S_:=Boxed.new (V.alloc (.cells #[.slice bc len zN] 34)) 3 (.int .i64 (c:Int));have hK2:Kept v ((V.alloc (.cells #[.slice bc len zN] 34)).alloc (.cells #[.int .i64 (c:Int)] 3)):=hK.below (((aA v.heap.size V).alloc hK.size _).alloc (by rw[lX];have:=hK.size;omega) _);have zD:((V.alloc (.cells #[.slice bc len zN] 34)).alloc (.cells #[.int .i64 (c:Int)] 3)).heap.size=V.heap.size+2:=ai;rw[lX]at S_;generalize(V.alloc (.cells #[.slice bc len zN] 34)).alloc (.cells #[.int .i64 (c:Int)] 3)=V2 at*;refine tZ hD (zJ hD (adi hD (gf:=99) (lb:=#[.pointer (some ⟨V.heap.size,0,none⟩),.pointer (some ⟨V.heap.size+1,0,none⟩)]) (λfr h=>by simp only[Frame.eval,h];rfl) func99 ag (c:=Ls) ag λhOD hOl=>?_));have en:Tryz.f99.ntmps-(1+(#[.pointer (some ⟨V.heap.size,0,none⟩),.pointer (some ⟨V.heap.size+1,0,none⟩)]:Array Value).size)=28:=by rw[ntmps99];rfl
 rw[en];refine Y9 hD _ _ _ λT1 hT1=>?_
 have hI0:∀T',LW v lb V.heap.size (V.heap.size+1) V2.heap.size (V2.heap.size+1) bc len zN c M qy T' .ready 0 ((V2.alloc (.deferred (some []))).alloc (.loop (lpR T' V2.heap.size .ready))):=λT'=>by
  refine⟨⟨_,(hL2.alloc _).alloc _,?_⟩,(hS2.alloc _).alloc _,(S_.alloc _).alloc _,?_,?_,hK2.below (((aA v.heap.size V2).alloc hK2.size _).alloc (by rw[lX];have:=hK2.size;omega) _)⟩
  .have:=(ND.alloc (.deferred (some []))).alloc (.loop (lpR T' V2.heap.size .ready));simpa[rO]using this
  .have:=World.alloc_heap_new (V2.alloc (.deferred (some []))) (.loop (lpR T' V2.heap.size .ready));rwa[lX]at this
  .exact(bM _ _ _ ai).trans (World.alloc_heap_new V2 _)
 refine al3 hD (V2.heap.size+1) V.heap.size (V.heap.size+1) b off len zN c hc VD ae aqi bc hba (lpR _ V2.heap.size .ready) rfl hOl (LW v lb V.heap.size (V.heap.size+1) V2.heap.size (V2.heap.size+1) bc len zN c M qy _ .ready) (λj W h=>⟨h.s,h.n,h.lp⟩) (λj W τ d h=>h.tape τ d) (λj W PZ cs hj hI NG=>?_) (λW hI=>?_) (GI c len) 0 T1 _ ae (by rw[fH];exact hT1) (hI0 _)
 .rw[aow];exact aiW hD (adg rfl) hc VD hlen KP hMl hT hby L_ ae ae ae ae hOl j W hj hI NG
 .rw[R_];exact aox hD (adg rfl) hc VD hlen hMl L_ ae ae ae ae hOl hOD W hI qH
end
end Go.Proofs.Y
namespace Go.Proofs.Y
open Go.Proofs.Tryz
open Go.RowKit Go.Deep Go.Lf Go.Conc Go.Hp
noncomputable def yx:Code:=Tryz.f17.body.getD .skip
noncomputable def aC6:Code:=qJ (qo (qo (qo (qo (qo yx)))))
noncomputable def Jk:Code:=qo (qo (qo (qo (qo (qo yx)))))
noncomputable def z_:Code:=Pg (Pg (qo aC6))
noncomputable def P6:{x:Array Oper//x=uk (qJ aC6)}:=⟨_,by(simp only[aC6,yx,qJ,qo,uk,Tryz.f17,aB];rfl)⟩
noncomputable def EF:Array Oper:=P6.1
theorem aoy:aC6=.seq (.region 6 EF true) (.block 0 (.loop z_)):=ag
theorem aa1:EF.size=9:=ag
theorem aoz:prog.follows .mixedOrders=true:=ag
theorem sfA:∃fn,prog.funcs[17]?=some fn:=⟨_,func17⟩
def T6(f:Nat->Value)(pc K N:Nat)(vb vn vs vm vh vj:Value)(b0 b1 b2 b3 b4 b5 b8:Bool):Array Value:=#[vb,f 1,f 2,.pointer (some ⟨pc,0,none⟩),f 4,f 5,vn,vs,vm,vh,f 10,f 11,f 12,f 13,f 14,f 15,f 16,f 17,f 18,f 19,f 20,f 21,f 22,f 23,f 24,f 25,f 26,f 27,(if b0 then .pointer (some ⟨pc,0,none⟩)else f 28),(if b1 then .int .i64 ((K:Nat):Int)else f 29),(if b2 then .pointer (some ⟨pc,1,none⟩)else f 30),(if b3 then .int .i64 ((N:Nat):Int)else f 31),(if b4 then vb else f 32),(if b5 then vj else f 33),f 34,f 35,(if b8 then .int .i64 0 else f 36),f 37,f 38,f 39,f 40,f 41,f 42,f 43,f 44,f 45,f 46,f 47,f 48,f 49,f 50,f 51,f 52,f 53,f 54,f 55,f 56,f 57,f 58,f 59]
def TA(pc:Nat)(vn vs vm vh x:Value)(T:Array Value):Prop:=∃f:Nat->Value,T=#[f 0,f 1,f 2,.pointer (some ⟨pc,0,none⟩),f 4,f 5,vn,vs,vm,vh,f 10,f 11,f 12,f 13,f 14,f 15,f 16,f 17,f 18,f 19,f 20,f 21,f 22,f 23,f 24,f 25,f 26,f 27,f 28,f 29,f 30,f 31,f 32,f 33,f 34,f 35,x,f 37,f 38,f 39,f 40,f 41,f 42,f 43,f 44,f 45,f 46,f 47,f 48,f 49,f 50,f 51,f 52,f 53,f 54,f 55,f 56,f 57,f 58,f 59]
theorem aqj{pc:Nat}{vn vs vm vh x:Value}{T:Array Value}(h:T=#[T.getD 0 undef,T.getD 1 undef,T.getD 2 undef,.pointer (some ⟨pc,0,none⟩),T.getD 4 undef,T.getD 5 undef,vn,vs,vm,vh,T.getD 10 undef,T.getD 11 undef,T.getD 12 undef,T.getD 13 undef,T.getD 14 undef,T.getD 15 undef,T.getD 16 undef,T.getD 17 undef,T.getD 18 undef,T.getD 19 undef,T.getD 20 undef,T.getD 21 undef,T.getD 22 undef,T.getD 23 undef,T.getD 24 undef,T.getD 25 undef,T.getD 26 undef,T.getD 27 undef,T.getD 28 undef,T.getD 29 undef,T.getD 30 undef,T.getD 31 undef,T.getD 32 undef,T.getD 33 undef,T.getD 34 undef,T.getD 35 undef,x,T.getD 37 undef,T.getD 38 undef,T.getD 39 undef,T.getD 40 undef,T.getD 41 undef,T.getD 42 undef,T.getD 43 undef,T.getD 44 undef,T.getD 45 undef,T.getD 46 undef,T.getD 47 undef,T.getD 48 undef,T.getD 49 undef,T.getD 50 undef,T.getD 51 undef,T.getD 52 undef,T.getD 53 undef,T.getD 54 undef,T.getD 55 undef,T.getD 56 undef,T.getD 57 undef,T.getD 58 undef,T.getD 59 undef]):TA pc vn vs vm vh x T:=⟨λi=>T.getD i undef,h⟩
def Left(x:Value)(rest:List Nat):Prop:=(rest=[7]/\x=.int .i64 0)\/rest=[7,8]\/rest=[8,7]
noncomputable def Jb(T:Array Value)(rest:List Nat):Frame:=(base 17).at ⟨T,[]⟩ (.inRegion EF (6::rest)::[.code (.block 0 (.loop z_)),.code Jk])
theorem af8:alV 30=true:=au
section
variable {X:Nat->Prop}{Y:Nat->Option Obj}{D:Nat->World->Array Event->Prop}{Stop:Goroutine->World->Prop}{cs:List Frame}
theorem adk(b0 b1 b2 b3 b4 b5 b8:Bool):Region.ready .any EF #[b0,b1,b2,b3,b4,b5,false,false,b8]≠[]:=by
 have mem:∀i o,EF[i]?=some o->(#[b0,b1,b2,b3,b4,b5,false,false,b8]:Array Bool).getD i true=false->(∀e∈o.after,(#[b0,b1,b2,b3,b4,b5,false,false,b8]:Array Bool).getD e.on false=true)->Region.ready .any EF #[b0,b1,b2,b3,b4,b5,false,false,b8]≠[]:=λi o ho h1 h2 e=>by have:=mem_ready (md:=.any).2 ⟨h1,o,ho,λe he _=>h2 e he⟩;rw[e]at this;cases this
 cases b0
 .exact mem 0 _ dE rfl ai
 cases b1
 .exact mem 1 _ dE rfl ai
 cases b2
 .exact mem 2 _ dE rfl ai
 cases b3
 .exact mem 3 _ dE rfl ai
 cases b4
 .exact mem 4 _ dE rfl ai
 cases b5
 .exact mem 5 _ dE rfl ai
 .exact mem 6 _ dE rfl ai
def J5(v0:World)(l:List UInt8)(b5:Bool)(vj:Value)(v:World):Prop:=(b5=false/\v=v0)\/(b5=true/\sK v0.heap.size v0 v/\rG v0.heap.size v vj l)
theorem J5.AZ{v0 v:World}{l:List UInt8}{b5:Bool}{vj:Value}(h:J5 v0 l b5 vj v):sK v0.heap.size v0 v:=by
 rcases h with⟨_,rfl⟩|⟨_,h,_⟩
 .exact sK.refl _ _
 .exact h
def DC6(b0 b1 b2 b3 b4 b5:Bool):Prop:=(b1=true->b0=true)/\(b3=true->b2=true)/\(b5=true->b4=true)
theorem amR(b8:Bool)(fuel t:Nat)(hf:fuel=1+(!b8).toNat)(x:Value):Left (if b8 then .int .i64 0 else x) (Region.linearise.go .any EF fuel t #[true,true,true,true,true,true,true,false,b8] []):=by
 have r0:Region.ready .any EF #[true,true,true,true,true,true,true,false,true]=[7]:=ag;have r1:Region.ready .any EF #[true,true,true,true,true,true,true,false,false]=[7,8]:=ag;have r2:Region.ready .any EF #[true,true,true,true,true,true,true,true,false]=[8]:=ag;cases b8
 .obtain rfl:fuel=0+1+1:=oI;obtain⟨i,t',hi,e⟩:=go_succ (ops:=EF) (0+1) t #[true,true,true,true,true,true,true,false,false] (by rw[r1];simp);rw[e];rw[r1]at hi;simp at hi;rcases hi with rfl|rfl
  .obtain⟨i2,t2,Gz,e2⟩:=go_succ (ops:=EF) 0 t' #[true,true,true,true,true,true,true,true,false] (by rw[r2];simp);rw[r2]at Gz;simp at Gz;subst Gz;refine .inr (.inl ?_);show 7::Region.linearise.go .any EF (0+1) t' #[true,true,true,true,true,true,true,true,false] []=_;rw[e2];rfl
  .obtain⟨i2,t2,Gz,e2⟩:=go_succ (ops:=EF) 0 t' #[true,true,true,true,true,true,true,false,true] (by rw[r0];simp);rw[r0]at Gz;simp at Gz;subst Gz;refine .inr (.inr ?_);show 8::Region.linearise.go .any EF (0+1) t' #[true,true,true,true,true,true,true,false,true] []=_;rw[e2];rfl
 .obtain rfl:fuel=0+1:=oI;obtain⟨i,t',hi,e⟩:=go_succ (ops:=EF) 0 t #[true,true,true,true,true,true,true,false,true] (by rw[r0];simp);rw[r0]at hi;simp at hi;subst hi;refine .inl ⟨?_,rfl⟩;rw[e];rfl
theorem af9(hD:vw X D){f:Nat->Value}{pc K N m cap:Nat}{bo:Option Addr}{vn vs vm vh vb:Value}{v0:World}{l:List UInt8}(hvb:vb=.slice bo m cap)(hK:v0.cell? ⟨pc,0,none⟩=some (.int .i64 ((K:Nat):Int)))(hN:v0.cell? ⟨pc,1,none⟩=some (.int .i64 ((N:Nat):Int)))
  (aqk:∀τ d,Calls prog 30 #[.slice bo m cap] {v0 with tape:=τ,drawn:=d} λr w'=>sK v0.heap.size v0 w'/\∃v,r=.returned v/\rG v0.heap.size w' v l)
  (qH:∀(T:Array Value)(rest:List Nat)(x vj:Value)(v:World),TA pc vn vs vm vh x T->Left x rest->sK v0.heap.size v0 v->rG v0.heap.size v vj l->uh prog X Y D Stop 29 (Jb T rest::cs) [.code zi] ⟨#[.int .i64 ((K:Nat):Int),.int .i64 ((N:Nat):Int),vj]++Array.replicate 23 undef,[]⟩ v):
  ∀(fuel t:Nat)(b0 b1 b2 b3 b4 b5 b8:Bool)(vj:Value)(v:World),fuel=2+(!b0).toNat+(!b1).toNat+(!b2).toNat+(!b3).toNat+(!b4).toNat+(!b5).toNat+(!b8).toNat->DC6 b0 b1 b2 b3 b4 b5->J5 v0 l b5 vj v->
   uh prog X Y D Stop 17 cs (.inRegion EF (Region.linearise.go .any EF fuel t #[b0,b1,b2,b3,b4,b5,false,false,b8] [])::[.code (.block 0 (.loop z_)),.code Jk]) ⟨T6 f pc K N vb vn vs vm vh vj b0 b1 b2 b3 b4 b5 b8,[]⟩ v:=by
 intro fuel
 induction fuel with
 |zero=>intro t b0 b1 b2 b3 b4 b5 b8 vj v hf;omega
 |succ fuel ih=>
  intro t b0 b1 b2 b3 b4 b5 b8 vj v hf hC hJ;obtain⟨i,t',hi,e⟩:=go_succ (ops:=EF) fuel t _ (adk b0 b1 b2 b3 b4 b5 b8);rw[e];obtain⟨h1,o,ho,xe⟩:=mem_ready.1 hi;have hb:=hJ.AZ;have qE:i<9:=by rw[<-aa1];exact(bf.1 ho).1
  have hKv:v.cell? ⟨pc,0,none⟩=some (.int .i64 ((K:Nat):Int)):=UE (w:={v0 with tape:=v.tape}) hb (ak _) hK;have hNv:v.cell? ⟨pc,1,none⟩=some (.int .i64 ((N:Nat):Int)):=UE (w:={v0 with tape:=v.tape}) hb (ak _) hN
  match i,qE with
  |0,_=>
   obtain rfl:b0=false:=h1;refine qw qK hD (.pointer (some ⟨pc,0,none⟩)) dE rfl ag (λz _=>oH) ?_;exact ih t' true b1 b2 b3 b4 b5 b8 vj v jA ⟨λh=>rfl,hC.2⟩ hJ
  |1,_=>
   obtain rfl:b1=false:=h1
   obtain rfl:b0=true:=by exact awR
   refine qw qK hD (.int .i64 ((K:Nat):Int)) dE rfl ag (λz hz=>by have hc:z.cell? ⟨pc,0,none⟩=some (.int .i64 ((K:Nat):Int)):=(by simp only[World.cell?,hz];exact hKv);unfold T6;go_simp) ?_;exact ih t' true true b2 b3 b4 b5 b8 vj v jA ⟨λh=>rfl,hC.2⟩ hJ
  |2,_=>
   obtain rfl:b2=false:=h1;refine qw qK hD (.pointer (some ⟨pc,1,none⟩)) dE rfl ag (λz _=>oH) ?_;exact ih t' b0 b1 true b3 b4 b5 b8 vj v jA ⟨hC.1,λh=>rfl,hC.2.2⟩ hJ
  |3,_=>
   obtain rfl:b3=false:=h1
   obtain rfl:b2=true:=by exact awR
   refine qw qK hD (.int .i64 ((N:Nat):Int)) dE rfl ag (λz hz=>by have hc:z.cell? ⟨pc,1,none⟩=some (.int .i64 ((N:Nat):Int)):=(by simp only[World.cell?,hz];exact hNv);unfold T6;go_simp) ?_;exact ih t' b0 b1 true true b4 b5 b8 vj v jA ⟨hC.1,λh=>rfl,hC.2.2⟩ hJ
  |4,_=>
   obtain rfl:b4=false:=h1;refine qw qK hD (vb) dE rfl ag (λz _=>oH) ?_;exact ih t' b0 b1 b2 b3 true b5 b8 vj v jA ⟨hC.1,hC.2.1,λh=>rfl⟩ hJ
  |5,_=>
   obtain rfl:b5=false:=h1
   obtain rfl:b4=true:=by exact awR
   obtain⟨_,rfl⟩|⟨h,_⟩:=hJ
   .refine MG qK hD (qK.body af8 ag) (R:=λy w'=>sK v.heap.size v w'/\rG v.heap.size w' y l) dE rfl ax (vs:=#[.slice bo m cap]) (by rw[<-hvb];simp[Act.eval,T6]) (ave ag) (λτ d=>(aqk τ d).mono (by
     rintro r w' ⟨h1,y,rfl,h2⟩;exact⟨y,rfl,h1,h2⟩)) λy v' hy=>?_
    exact ih t' b0 b1 b2 b3 true true b8 y v' jA ⟨hC.1,hC.2.1,λh=>rfl⟩ (.inr ⟨rfl,hy.1,hy.2⟩)
   .cases h
  |6,_=>
   have hal:b1=true/\b3=true/\b5=true:=by simp only[EF,P6]at ho;cases ho;exact⟨xe ⟨1,.data⟩ ai rfl,xe ⟨3,.data⟩ ai rfl,xe ⟨5,.data⟩ ai rfl⟩
   obtain⟨rfl,rfl,rfl⟩:=hal;obtain rfl:=hC.1 rfl;obtain rfl:=hC.2.1 rfl;obtain rfl:=hC.2.2 rfl;obtain⟨h,_⟩|⟨_,hb,hO⟩:=hJ
   .cases h
   .refine xH hD dE rfl ax func29 ag (c:=zi) ag (vs:=#[.int .i64 ((K:Nat):Int),.int .i64 ((N:Nat):Int),vj]) (n:=23) (by simp[Act.eval,T6]) ag ?_;exact qH _ _ _ vj v (aqj rfl) (amR b8 fuel t' jA (f 36)) hb hO
  |7,_=>
   simp only[EF,P6]at ho;cases ho;have:=xe _ (nT.2 (dR.2 rfl)) rfl;cases this
  |8,_=>
   obtain rfl:b8=false:=h1;refine qw qK hD (.int .i64 0) dE rfl ag (λz _=>oH) ?_;exact ih t' b0 b1 b2 b3 b4 b5 true vj v jA hC hJ
