import Derived.Test.YtnbflnamlpodcaaGreatDoorEnO
set_option maxHeartbeats 8000000
set_option maxRecDepth 100000
namespace Go.Proofs.Y
open Go.RowKit Go.Deep Go.Lf Go.Conc
noncomputable def Ir:Code:=Tryz.f31.body.getD .skip
noncomputable def wC5:Code:=qG (qo (qo (qo (qo (qo Ir)))))
noncomputable def W9:Code:=qo (qo (qo (qo (qo (qo Ir)))))
theorem sfW:∃fn,Tryz.prog.funcs[31]?=some fn:=⟨_,Tryz.func31⟩
def TWr(row lb:Nat)(T:Array Value):Prop:=∃f:Nat->Value,T=#[f 0,f 1,.pointer (some ⟨row,0,none⟩),f 3,f 4,f 5,.pointer (some ⟨lb,0,none⟩),f 7,f 8,f 9,f 10,f 11,f 12,f 13,f 14,f 15,f 16,f 17,f 18,f 19,f 20,f 21,f 22,f 23,f 24,f 25,f 26,f 27,f 28,f 29,f 30,f 31,f 32,f 33,f 34,f 35,f 36,f 37,f 38,f 39,f 40,f 41,f 42,f 43,f 44,f 45,f 46,f 47,f 48,f 49,f 50,f 51,f 52]
theorem Zu{row lb:Nat}{T:Array Value}(h:T=#[T.getD 0 undef,T.getD 1 undef,.pointer (some ⟨row,0,none⟩),T.getD 3 undef,T.getD 4 undef,T.getD 5 undef,.pointer (some ⟨lb,0,none⟩),T.getD 7 undef,T.getD 8 undef,T.getD 9 undef,T.getD 10 undef,T.getD 11 undef,T.getD 12 undef,T.getD 13 undef,T.getD 14 undef,T.getD 15 undef,T.getD 16 undef,T.getD 17 undef,T.getD 18 undef,T.getD 19 undef,T.getD 20 undef,T.getD 21 undef,T.getD 22 undef,T.getD 23 undef,T.getD 24 undef,T.getD 25 undef,T.getD 26 undef,T.getD 27 undef,T.getD 28 undef,T.getD 29 undef,T.getD 30 undef,T.getD 31 undef,T.getD 32 undef,T.getD 33 undef,T.getD 34 undef,T.getD 35 undef,T.getD 36 undef,T.getD 37 undef,T.getD 38 undef,T.getD 39 undef,T.getD 40 undef,T.getD 41 undef,T.getD 42 undef,T.getD 43 undef,T.getD 44 undef,T.getD 45 undef,T.getD 46 undef,T.getD 47 undef,T.getD 48 undef,T.getD 49 undef,T.getD 50 undef,T.getD 51 undef,T.getD 52 undef]):TWr row lb T:=⟨λi=>T.getD i undef,h⟩
theorem P9{w w':World}(h:Below w.heap.size w w'):Kept w w':=⟨h.os,h.output,h.size,h.block⟩
theorem Kept.tape{w w':World}(h:Kept w w')(τ:Nat->Question->Nat)(d:Nat):Kept w {w' with tape:=τ,drawn:=d}:=⟨h.os,h.output,h.size,h.block⟩
theorem Kept.below{a b c:World}(h:Kept a b)(h':Below a.heap.size b c):Kept a c:=⟨h'.os.trans h.os,h'.output.trans h.output,aK h.size h'.size,λx hx=>(h'.block x hx).trans (h.block x hx)⟩
theorem Kept.cell{w w':World}(h:Kept w w'){b o:Nat}{v:Value}(hc:w.cell? ⟨b,o,none⟩=some v):w'.cell? ⟨b,o,none⟩=some v:=by have hb:=cell_lt hc;have e:=h.block b hb;simp only[World.cell?,e]at hc⊢;exact hc
theorem Kept.EW{w w':World}(h:Kept w w'){b o:Nat}{l:List UInt8}(hb:Ag w b o l):Ag w' b o l:=λj hj=>h.cell (hb j hj)
theorem Kept.tab{w w':World}(h:Kept w w')(ht:Tab w):Tab w':=⟨aN ht.1 h.size,λi hi=>h.cell (ht.2 i hi)⟩
section
variable {X:Nat->Prop}{Y:Nat->Option Obj}{D:Nat->World->Array Event->Prop}{Stop:Goroutine->World->Prop}{v:World}{cs:List Frame}
theorem aeV(hD:uo X D)(k n i c:Nat)(hk:k<=255)(hn:n<=255)(hi:i<=255)(hc:1<=c)(hc2:c<=65536)(vN vS:Value)(bc:Option Addr)(len yB:Nat)(hlen:len<=65536)(gm aeW ml:Nat)(Lj:List UInt8)(hml:Lj.length=ml)(hm8:8<=ml)(hm:ml<=1000000)
  (abE:Ag v gm 0 Lj) (_:gm<v.heap.size) (hT:Tab v)
  (hnext:∀(T:Array Value)(lb g4 cap4:Nat)(V:World),TWr v.heap.size lb T->v.heap.size<lb->lb<V.heap.size->Boxed V lb 34 (.slice (some ⟨g4,0,none⟩) (32+ml) cap4)->OwnB v.heap.size V (.slice (some ⟨g4,0,none⟩) (32+ml) cap4) (rV ([67,65,73,82,78,49]++([UInt8.ofNat k,UInt8.ofNat n,UInt8.ofNat i,0]++(leB 4 c++(leB 4 (ml-8)++(leB 4 len++[0,0])))))++Lj)->
   qf V v.heap.size [.int .i64 (k:Int),.int .i64 (n:Int),.int .i64 (i:Int),.int .i64 (c:Int),vN,vS,.slice bc len yB] 55->Kept v V->qR Tryz.prog X Y D Stop none [] 31 cs [.code wC5,.code W9] T V):
  qR Tryz.prog X Y D Stop none [] 31 cs [.code Ir] (#[.agg #[.int .i64 (k:Int),.int .i64 (n:Int),.int .i64 (i:Int),.int .i64 (c:Int),vN,vS,.slice bc len yB],.slice (some ⟨gm,0,none⟩) ml aeW]++Array.replicate 51 undef) v:=by
 obtain⟨i0,hi0,hz0,hz1,hz2⟩:=bg Au;obtain⟨f,ef⟩:∃f,(len+c-1)/c=f:=⟨_,rfl⟩;have hf:f<=len+c:=by rw[<-ef];exact aK (Nat.div_le_self _ _) ae
 have hq:((len:Int)+(c:Int)-1)/(c:Int)=(f:Int):=by rw[show(len:Int)+(c:Int)-1=((len+c-1:Nat):Int)by omega,<-Int.natCast_ediv,ef]
 clear ef;have hpos:2<v.heap.size:=hT.1;unfold Ir;simp only[Tryz.f31,aB,cu,b_,bV,bY,bf,aW];refine qw hD (rG qI hD ag sfW λR hR τ d=>?_);go_wp2;change qR _ _ _ _ _ _ _ _ _ _ _ (v.alloc (.cells #[.int .i64 (k:Int),.int .i64 (n:Int),.int .i64 (i:Int),.int .i64 (c:Int),vN,vS,.slice bc len yB] 55));have hr0:=qf.made v [.int .i64 (k:Int),.int .i64 (n:Int),.int .i64 (i:Int),.int .i64 (c:Int),vN,vS,.slice bc len yB] 55;have hb0:Kept v (v.alloc (.cells #[.int .i64 (k:Int),.int .i64 (n:Int),.int .i64 (i:Int),.int .i64 (c:Int),vN,vS,.slice bc len yB] 55)):=P9 ((aA v.heap.size v).alloc (ak _) _);have s0:(v.alloc (.cells #[.int .i64 (k:Int),.int .i64 (n:Int),.int .i64 (i:Int),.int .i64 (c:Int),vN,vS,.slice bc len yB] 55)).heap.size=v.heap.size+1:=ai;replace hr0:qf (v.alloc (.cells #[.int .i64 (k:Int),.int .i64 (n:Int),.int .i64 (i:Int),.int .i64 (c:Int),vN,vS,.slice bc len yB] 55)) v.heap.size [.int .i64 (k:Int),.int .i64 (n:Int),.int .i64 (i:Int),.int .i64 (c:Int),vN,vS,.slice bc len yB] 55:=hr0;generalize v.alloc (.cells #[.int .i64 (k:Int),.int .i64 (n:Int),.int .i64 (i:Int),.int .i64 (c:Int),vN,vS,.slice bc len yB] 55)=V0 at hr0 hb0 s0⊢;refine qw hD (rG qI hD ag sfW λR hR τ d=>?_);have c3:=qf.cell (w:={V0 with tape:=τ,drawn:=d}) hr0 (i:=3) rfl;have c6:=qf.cell (w:={V0 with tape:=τ,drawn:=d}) hr0 (i:=6) rfl;go_wp2;change qR _ _ _ _ _ _ _ _ _ _ _ V0;clear c3 c6;refine qw hD (rG qI hD ag sfW λR hR τ d=>?_);have c6:=qf.cell (w:={V0 with tape:=τ,drawn:=d}) hr0 (i:=6) rfl;have ajF:qf {V0 with tape:=τ,drawn:=d} v.heap.size [.int .i64 (k:Int),.int .i64 (n:Int),.int .i64 (i:Int),.int .i64 (c:Int),vN,vS,.slice bc len yB] 55:=hr0;have ajG:Kept v {V0 with tape:=τ,drawn:=d}:=hb0.tape τ d;have s0':({V0 with tape:=τ,drawn:=d}:World).heap.size=v.heap.size+1:=s0;generalize({V0 with tape:=τ,drawn:=d}:World)=V1 at c6 ajF ajG s0'⊢;obtain⟨w0,hmk,ho0,hg0⟩:=run_make_own (P:=Tryz.prog) V1 v.heap.size 34 5 i0 (.int .u8 0) 1 Tryz.underlying34 hi0 hz0 hz1 .i64 .i64 (32+ml+len+f*8+4) fO bH ae;have hcast:((32+ml+len+f*8+4:Nat):Int)=32+(ml:Int)+(len:Int)+(f:Int)*8+4:=ae;rw[hcast]at hmk;rw[s0']at hmk ho0;clear hcast;obtain⟨CP,eCP⟩:∃CP,32+ml+len+f*8+4=CP:=⟨_,rfl⟩;rw[eCP]at hmk ho0;clear eCP;have hr1:qf w0 v.heap.size [.int .i64 (k:Int),.int .i64 (n:Int),.int .i64 (i:Int),.int .i64 (c:Int),vN,vS,.slice bc len yB] 55:=(hg0.block v.heap.size ae ai).trans ajF;have hO0:OwnB v.heap.size w0 (.slice (some ⟨v.heap.size+1,0,none⟩) 0 CP) []:=OwnB.of ho0;have hb1:Kept v w0:=ajG.below ((aA v.heap.size V1).grown hg0 ae (λk hk=>by cases hk));have hs0:v.heap.size<w0.heap.size:=by have:=hg0.size;omega
 have hL1:=Boxed.new w0 34 (.slice (some ⟨v.heap.size+1,0,none⟩) 0 CP);have PV:=hO0.alloc (.cells #[.slice (some ⟨v.heap.size+1,0,none⟩) 0 CP] 34);have hb2:Kept v (w0.alloc (.cells #[.slice (some ⟨v.heap.size+1,0,none⟩) 0 CP] 34)):=hb1.below ((aA v.heap.size w0).alloc ae _);have hr2:qf (w0.alloc (.cells #[.slice (some ⟨v.heap.size+1,0,none⟩) 0 CP] 34)) v.heap.size [.int .i64 (k:Int),.int .i64 (n:Int),.int .i64 (i:Int),.int .i64 (c:Int),vN,vS,.slice bc len yB] 55:=hr1.keep ((xA.refl _).alloc _) au;have hs2:w0.heap.size<(w0.alloc (.cells #[.slice (some ⟨v.heap.size+1,0,none⟩) 0 CP] 34)).heap.size:=ai;clear hg0 ho0 hO0 hr1 ajF hb1 ajG;go_wp2;clear hmk c6;generalize w0.alloc (.cells #[.slice (some ⟨v.heap.size+1,0,none⟩) 0 CP] 34)=V2 at hL1 PV hb2 hr2 hs2⊢;generalize w0.heap.size=lb at*;refine qw hD (rG qI hD ag sfW λR hR τ d=>?_);replace hL1:Boxed {V2 with tape:=τ,drawn:=d} lb 34 _:=hL1;replace PV:OwnB v.heap.size {V2 with tape:=τ,drawn:=d} _ _:=PV;replace hr2:qf {V2 with tape:=τ,drawn:=d} v.heap.size _ 55:=hr2;replace hb2:Kept v {V2 with tape:=τ,drawn:=d}:=hb2.tape τ d;replace hs2:lb<({V2 with tape:=τ,drawn:=d}:World).heap.size:=hs2;generalize({V2 with tape:=τ,drawn:=d}:World)=V3 at*;have c0:=hr2.cell (i:=0) rfl;have c1:=hr2.cell (i:=1) rfl;have c2:=hr2.cell (i:=2) rfl;have c3:=hr2.cell (i:=3) rfl;have c4:=hr2.cell (i:=4) rfl;have c5:=hr2.cell (i:=5) rfl;have c6:=hr2.cell (i:=6) rfl;have cL:=hL1.cell;have hM8:(ml:Int)-8=((ml-8:Nat):Int):=ae;have K1:=WX v.heap.size _ k n i c hk hn hi hc2 vN vS bc len yB ae ((ml:Int)-8) (ml-8) hM8 ae _ PV hb2.size (hb2.tab hT) hpos;clear hM8;obtain⟨H,eH⟩:∃H,rV ([67,65,73,82,78,49]++([UInt8.ofNat k,UInt8.ofNat n,UInt8.ofNat i,0]++(leB 4 c++(leB 4 (ml-8)++(leB 4 len++[0,0])))))=H:=⟨_,rfl⟩
 have hHl:Hid (H.length=32):=by show _=_;rw[<-eH,rY];simp[ry]
 rw[eH]at K1 hnext;clear eH
 go_wp2_with(first|(go_at_call 54;(with_reducible refine K1.mono ?_);clear K1;rintro r w2 ⟨v2,rfl,hO2,hb3,hk2⟩;obtain⟨g2,cap2,rfl,_,_,_,_,_⟩:=yU hO2 (by have:=hHl.out;omega);have hL2:Boxed w2 lb 34 _:=hk2.same _ _ hL1 rfl;have cL2:=hL2.cell;have fL2:=hL2.frozen))
 have hr3:=(hr2.keep hk2 au).ak3 (lb:=lb) ae (.slice (some ⟨g2,0,none⟩) H.length cap2);have hO3:=hO2.set hL2 (.slice (some ⟨g2,0,none⟩) H.length cap2);have hL3:=hL2.set (.slice (some ⟨g2,0,none⟩) H.length cap2);have hb4:Kept v (w2.setCell ⟨lb,0,none⟩ (.slice (some ⟨g2,0,none⟩) H.length cap2)):=(hb2.below hb3).below ((aA v.heap.size w2).setCell (p:=⟨lb,0,none⟩) oP _);have hs3:lb<(w2.setCell ⟨lb,0,none⟩ (.slice (some ⟨g2,0,none⟩) H.length cap2)).heap.size:=by rw[pY];exact aN hs2 hb3.size
 clear c0 c1 c2 c3 c4 c5 c6 cL hr2 hL1 PV hO2 hb3 hb2 hk2 hL2 cL2 fL2 hs2;generalize w2.setCell ⟨lb,0,none⟩ (.slice (some ⟨g2,0,none⟩) H.length cap2)=V4 at*;refine qw hD (rG qI hD ag sfW λR hR τ d=>?_);replace hL3:Boxed {V4 with tape:=τ,drawn:=d} lb 34 _:=hL3;replace hO3:OwnB v.heap.size {V4 with tape:=τ,drawn:=d} _ _:=hO3;replace hr3:qf {V4 with tape:=τ,drawn:=d} v.heap.size _ 55:=hr3;replace hb4:Kept v {V4 with tape:=τ,drawn:=d}:=hb4.tape τ d;replace hs3:lb<({V4 with tape:=τ,drawn:=d}:World).heap.size:=hs3;generalize({V4 with tape:=τ,drawn:=d}:World)=V5 at*;have cL:=hL3.cell;have hM5:=hb4.EW abE;obtain⟨M4,eM4⟩:∃M4,H++Lj=M4:=⟨_,rfl⟩;have hM4:Hid (H++Lj=M4):=eM4
 have ak4:Hid (M4.length=32+ml):=by show _=_;rw[<-eM4,aQ,hHl.out,hml]
 rw[eM4]at hnext;clear eM4
 go_wp2_with(first|(at_builtin;refine dF _ rfl _ _ 34 rfl v.heap.size 5 i0 (.int .u8 0) 1 1 Tryz.underlying34 hi0 hz0 hz1 hz2 rfl au _ _ _ rfl hO3 ⟨gm,0,none⟩ ml aeW (rF Lj) rfl (by rw[rH];omega) hM5.news (Cb _) (by have:=hHl.out;unfold maxLen;omega) (by have:=hHl.out;omega) hb4.size ?_;intro v4 w4 hown4 hgrow4 _;have hO4:OwnB v.heap.size w4 v4 M4:=hM4.out▸OwnB.more hown4 rfl;have hk4:=hO3.keeps hgrow4;have hb5:=hb4.below (hO3.grown hgrow4 hb4.size);obtain⟨g4,cap4,e4,_,_,_,_,_⟩:=yU hO4 (by have:=ak4.out;omega);rw[ak4.out]at e4;subst e4;have hL4:Boxed w4 lb 34 _:=hk4.same _ _ hL3 rfl;have cL4:=hL4.cell;have fL4:=hL4.frozen))
 have hr5:=(hr3.keep hk4 au).ak3 (lb:=lb) ae (.slice (some ⟨g4,0,none⟩) (32+ml) cap4);have YF:=hO4.set hL4 (.slice (some ⟨g4,0,none⟩) (32+ml) cap4);have hL5:=hL4.set (.slice (some ⟨g4,0,none⟩) (32+ml) cap4);have hb6:Kept v (w4.setCell ⟨lb,0,none⟩ (.slice (some ⟨g4,0,none⟩) (32+ml) cap4)):=hb5.below ((aA v.heap.size w4).setCell (p:=⟨lb,0,none⟩) oP _);refine qw hD (hnext _ lb g4 cap4 _ (Zu rfl) ae (by rw[pY];exact aN hs3 hk4.size) hL5 YF hr5 hb6)
end
noncomputable def qw5:{x:Array Oper//x=sN (qG wC5)}:=⟨_,by(simp only[wC5,Ir,qG,qo,sN,Tryz.f31,aB];rfl)⟩
noncomputable def qw9:{x:Array Oper//x=sN (qG W9)}:=⟨_,by(simp only[W9,Ir,qG,qo,sN,Tryz.f31,aB];rfl)⟩
noncomputable def wO5:Array Oper:=qw5.1
noncomputable def wO9:Array Oper:=qw9.1
noncomputable def wAs:Code:=gAs (Lc (qo wC5))
noncomputable def wBd:Code:=gRd (Lc (qo wC5))
theorem ajH:wC5=.seq (.region 5 wO5 false) (.block 0 (.rangeFunc (.tmp 43) #[44] wAs wBd)):=ag
theorem aeX:W9=.seq (.region 9 wO9 false) .ret:=ag
theorem aeY:wO5.size=5:=ag
def TWx(row lb:Nat)(x:Value)(T:Array Value):Prop:=∃f:Nat->Value,T=#[f 0,f 1,.pointer (some ⟨row,0,none⟩),f 3,f 4,f 5,.pointer (some ⟨lb,0,none⟩),f 7,f 8,f 9,f 10,f 11,f 12,f 13,f 14,f 15,f 16,f 17,f 18,f 19,f 20,f 21,f 22,f 23,f 24,f 25,f 26,f 27,f 28,f 29,f 30,f 31,f 32,f 33,f 34,f 35,f 36,f 37,f 38,f 39,f 40,f 41,f 42,f 43,x,f 45,f 46,f 47,f 48,f 49,f 50,f 51,f 52]
theorem ajI{row lb:Nat}{x:Value}{T:Array Value}(h:T=#[T.getD 0 undef,T.getD 1 undef,.pointer (some ⟨row,0,none⟩),T.getD 3 undef,T.getD 4 undef,T.getD 5 undef,.pointer (some ⟨lb,0,none⟩),T.getD 7 undef,T.getD 8 undef,T.getD 9 undef,T.getD 10 undef,T.getD 11 undef,T.getD 12 undef,T.getD 13 undef,T.getD 14 undef,T.getD 15 undef,T.getD 16 undef,T.getD 17 undef,T.getD 18 undef,T.getD 19 undef,T.getD 20 undef,T.getD 21 undef,T.getD 22 undef,T.getD 23 undef,T.getD 24 undef,T.getD 25 undef,T.getD 26 undef,T.getD 27 undef,T.getD 28 undef,T.getD 29 undef,T.getD 30 undef,T.getD 31 undef,T.getD 32 undef,T.getD 33 undef,T.getD 34 undef,T.getD 35 undef,T.getD 36 undef,T.getD 37 undef,T.getD 38 undef,T.getD 39 undef,T.getD 40 undef,T.getD 41 undef,T.getD 42 undef,T.getD 43 undef,x,T.getD 45 undef,T.getD 46 undef,T.getD 47 undef,T.getD 48 undef,T.getD 49 undef,T.getD 50 undef,T.getD 51 undef,T.getD 52 undef]):TWx row lb x T:=⟨λi=>T.getD i undef,h⟩
theorem ahA{row lb:Nat}{T:Array Value}(h:TWr row lb T)(x:Value):TWx row lb x (T.setIfInBounds 44 x):=by obtain⟨f,rfl⟩:=h;exact ajI rfl
noncomputable def Zv(T:Array Value)(D:Nat)(s:LoopState):Loop:={state:=s,pending:=none,fn:=31,tmps:=T,params:=#[44],assign:=wAs,body:=wBd,defers:=D}
structure LW(v:World)(lb sb nb D l:Nat)(ba:Option Addr)(len cap c:Nat)(M:List UInt8)(qx:List UInt8)(T:Array Value)(st:LoopState)(j:Nat)(W:World):Prop where
 lst:∃y,Boxed W lb 34 y/\OwnB v.heap.size W y (M++rU c qx j)
 s:Boxed W sb 34 (.slice ba len cap)
 n:Boxed W nb 3 (.int .i64 (c:Int))
 lp:W.heap[l]?=some (.loop (Zv T D st))
 df:W.heap[D]?=some (.deferred (some []))
 kept:Kept v W
section
variable {v:World}{lb sb nb D l:Nat}{ba:Option Addr}{len cap c:Nat}{M qx:List UInt8}{T:Array Value}{st st':LoopState}{j:Nat}{W:World}
theorem LW.tape(h:LW v lb sb nb D l ba len cap c M qx T st j W)(τ:Nat->Question->Nat)(d:Nat):LW v lb sb nb D l ba len cap c M qx T st j {W with tape:=τ,drawn:=d}:=⟨h.lst,h.s,h.n,h.lp,h.df,h.kept.tape τ d⟩
theorem LU{W:World}{B r:Nat}{t:TypeId}{u:Value}{o:Obj}(h:Boxed W B t u)(hr:B≠r):Boxed (W.putObj r o) B t u:=(World.putObj_heap_other hr).trans h
theorem LW.put(h:LW v lb sb nb D l ba len cap c M qx T st j W)(hv:v.heap.size<=l)(h1:lb≠l)(h2:sb≠l)(h3:nb≠l)(h4:D≠l):LW v lb sb nb D l ba len cap c M qx T st' j (W.putObj l (.loop (Zv T D st'))):=by have hlt:=(a_.1 h.lp).1;obtain⟨y,hy,hO⟩:=h.lst;exact⟨⟨y,LU hy h1,ownsRow_putObj hO _ h.lp rfl⟩,LU h.s h2,LU h.n h3,World.putObj_heap_same hlt,(World.putObj_heap_other h4).trans h.df,⟨h.kept.os,h.kept.output,by rw[World.putObj_size];exact h.kept.size,λb hb=>(World.putObj_heap_other ae).trans (h.kept.block b hb)⟩⟩
end
section
variable {X:Nat->Prop}{Y:Nat->Option Obj}{D:Nat->World->Array Event->Prop}{Stop:Goroutine->World->Prop}{v:World}{cs:List Frame}{LQ:Frame}
theorem aeZ(hD:uo X D){lb sb nb Df l b off len cap c row:Nat}{M qx:List UInt8}{T:Array Value}{ba:Option Addr}(hTW:TWr row lb T)(hc:1<=c)(hc2:c<=65536)(hlen:len<=65536)(hcl:qx.length=len)(hM:M.length<=2000000)(hT:Tab v)(hby:Ag v b off qx)
  (hlb:v.heap.size<lb) (h1:lb<sb) (h2:sb<nb) (h3:nb<Df) (h4:Df<l) (hO:P7 X Y l) (j:Nat) (W:World) (hj:j*c<len) (hI:LW v lb sb nb Df l ba len cap c M qx T .ready j W)
  (hnext:∀v',LW v lb sb nb Df l ba len cap c M qx T .ready (j+1) v'->∀w,qH X Y w v'->ru Tryz.prog D Stop (G (LQ.finish (.bool true)) cs) w):
  qR Tryz.prog X Y D Stop (some l) [] 31 (LQ::cs) [.code wAs,.beginRound,.code wBd] (T.setIfInBounds 44 (P6 b off len c j)) W:=by
 obtain⟨i0,hi0,hz0,hz1,hz2⟩:=bg Au;obtain⟨f,hTx⟩:=ahA hTW (P6 b off len c j);rw[hTx];clear hTx;unfold wAs wC5 Ir;simp only[gAs,Lc,qG,qo,Tryz.f31,aB];refine rG qI hD ag sfW λR hR τ d=>?_
 go_wp2;change qR _ _ _ _ _ _ _ _ _ _ _ W;refine Zw hD hI.lp rfl hO ?_;change qR _ _ _ _ _ _ _ _ _ _ _ (W.putObj l (.loop (Zv T Df .busy)));have hI1:LW v lb sb nb Df l ba len cap c M qx T .busy j (W.putObj l (.loop (Zv T Df .busy))):=hI.put ae ae ae ae ae;clear hI;generalize W.putObj l (.loop (Zv T Df .busy))=W1 at*;unfold wBd wC5 Ir;simp only[gRd,Lc,qG,qo,Tryz.f31,aB];refine rG qI hD ag sfW λR hR τ d=>?_
 replace hI1:=hI1.tape τ d;generalize({W1 with tape:=τ,drawn:=d}:World)=W2 at*;obtain⟨⟨y,hv,PV⟩,hsB,hnB,hlp,hdf,hK⟩:=hI1;have hjn:j<Fg c len:=(P8 hc).2 hj
 have hLb:(M++rU c qx j).length<=10000000000:=by
  have h5:(rU c qx j).length<=j*(c+8):=by
   have:=LP [] c qx (len:=len) ((List.range j).attach.map λx=>⟨x.1,by
    have:=gp.1 x.2;exact(P8 hc).1 ae⟩)
   rw[aeQ [] c qx _ j apl]at this;exact aqb
  have h6:j*1<=j*c:=nz _ hc;have h7:j*(c+8)<=65536*(65536+8):=jG ae ae;rw[aQ];omega
 have ano:Tab W2:=hK.tab hT;have hpos:2<v.heap.size:=hT.1
 have hfB:Hid (yg c qx j=rV (part qx (j*c) (min c (len-j*c)))):=by show _=_;unfold yg;rw[hcl]
 have LS:Hid (M++rU c qx (j+1)=(M++rU c qx j)++yg c qx j):=by show _=_;rw[Il,eP]
 have hfl:(part qx (j*c) (min c (len-j*c))).length=min c (len-j*c):=qE ae;have hfv:Ag v b (off+j*c) (part qx (j*c) (min c (len-j*c))):=hby.part ae;have hfr:=hK.EW hfv;have hbb:b<v.heap.size:=cell_lt (hby 0 ae);unfold P6;obtain⟨L,eL⟩:∃L,M++rU c qx j=L:=⟨_,rfl⟩;obtain⟨p,ep⟩:∃p,j*c=p:=⟨_,rfl⟩;simp only[eL,ep]at PV hLb LS hfB hfl hfr hfv hj⊢;obtain⟨m,em⟩:∃m,min c (len-p)=m:=⟨_,rfl⟩;have hm1:1<=m:=ae;have hm2:m<=65536:=ae;simp only[em]at hfB hfl hfr hfv⊢;obtain⟨fr,efr⟩:∃fr,part qx p m=fr:=⟨_,rfl⟩;simp only[efr]at hfB hfl hfr hfv;clear eL ep em efr;have hc0:=hv.cell
 have hfin:∀(W3:World)(y3:Value)(L3:List UInt8),Hid (L3=L++yg c qx j)->Boxed W3 lb 34 y3->OwnB v.heap.size W3 y3 L3->Boxed W3 sb 34 (.slice ba len cap)->Boxed W3 nb 3 (.int .i64 (c:Int))->W3.heap[l]?=some (.loop (Zv T Df .busy))->W3.heap[Df]?=some (.deferred (some []))->Kept v W3->∀T',qR Tryz.prog X Y D Stop (some l) [] 31 (LQ::cs) [] T' W3:=λW3 y3 L3 e a1 a2 a3 a4 a5 a6 a7 T'=>
  ae0 hD a5 hO (hnext _ (LW.put ⟨⟨y3,a1,by rw[LS.out,<-e.out];exact a2⟩,a3,a4,a5,a6,a7⟩ ae ae ae ae ae))
 clear hnext
 go_wp2_with(first
  |(at_builtin;refine dF _ rfl _ _ 34 rfl v.heap.size 5 i0 (.int .u8 0) 1 1 Tryz.underlying34 hi0 hz0 hz1 hz2 rfl au _ _ _ rfl PV ⟨b,off+p,none⟩ m m (rF fr) rfl (by rw[rH];omega) hfr.news (Cb _) bH ae hK.size ?_;intro v1 w1 hown1 hgrow1 _;have hO2:OwnB v.heap.size w1 v1 (L++fr):=OwnB.more hown1 rfl;have hk1:=PV.keeps hgrow1;have hK1:=hK.below (PV.grown hgrow1 hK.size);obtain⟨L1,eL1⟩:∃L1,L++fr=L1:=⟨_,rfl⟩;have EL1:Hid (L++fr=L1):=eL1;have anp:L1.length<=20000000000:=apQ;have amk:0<L1.length:=apQ;rw[eL1]at hO2;clear eL1;obtain⟨g1,cap1,rfl,_,_,_,_,_⟩:=yU hO2 amk;have hv1:Boxed w1 lb 34 _:=hk1.same _ _ hv rfl;have e1:=hv1.cell;have e2:=hv1.frozen
    have hO3:=hO2.set hv1 (.slice (some ⟨g1,0,none⟩) L1.length cap1);have hv2:=hv1.set (.slice (some ⟨g1,0,none⟩) L1.length cap1);have hK2:=hK1.below ((aA v.heap.size w1).setCell (p:=⟨lb,0,none⟩) oP (.slice (some ⟨g1,0,none⟩) L1.length cap1));have hs2:=Boxed.other (hk1.same _ _ hsB rfl:Boxed w1 sb 34 _) (B':=lb) ae (.slice (some ⟨g1,0,none⟩) L1.length cap1);have hn2:=Boxed.other (hk1.same _ _ hnB rfl:Boxed w1 nb 3 _) (B':=lb) ae (.slice (some ⟨g1,0,none⟩) L1.length cap1);have aml:=(KeepsOthers.setCell w1 ⟨lb,0,none⟩ (.slice (some ⟨g1,0,none⟩) L1.length cap1)).same _ _ (hk1.same _ _ hlp rfl) rfl;have amm:=(KeepsOthers.setCell w1 ⟨lb,0,none⟩ (.slice (some ⟨g1,0,none⟩) L1.length cap1)).same _ _ (hk1.same _ _ hdf rfl) rfl;have hf2:=hK2.EW hfv;have K2:=PS v.heap.size _ L1 ae _ hO3 hK2.size b (off+p) m fr ae hf2 (hK2.tab hT);rw[hfl]at K2;clear hown1 hgrow1 hO2 hk1 hfr)
  |(go_at_call 46;(with_reducible refine K2.mono ?_);clear K2;rintro r w3 ⟨v3,rfl,hO4,hb3,hk3⟩;obtain⟨L3,eL3⟩:∃L3,L1++leB 8 (sumOf fr)=L3:=⟨_,rfl⟩;have EL3:Hid (L1++leB 8 (sumOf fr)=L3):=eL3;have amn:0<L3.length:=(by rw[<-eL3,aQ];omega);rw[eL3]at hO4;clear eL3;obtain⟨g3,cap3,rfl,_,_,_,_,_⟩:=yU hO4 amn;have hv3:Boxed w3 lb 34 _:=hk3.same _ _ hv2 rfl;have e3:=hv3.cell;have e4:=hv3.frozen))
 refine hfin _ _ L3 ?_ (hv3.set _) (hO4.set hv3 _) (Boxed.other (hk3.same _ _ hs2 rfl:Boxed w3 sb 34 _) ae _) (Boxed.other (hk3.same _ _ hn2 rfl:Boxed w3 nb 3 _) ae _) ((KeepsOthers.setCell w3 _ _).same _ _ (hk3.same _ _ aml rfl) rfl) ((KeepsOthers.setCell w3 _ _).same _ _ (hk3.same _ _ amm rfl) rfl) ((hK2.below hb3).below ((aA v.heap.size w3).setCell (p:=⟨lb,0,none⟩) oP _)) _;show L3=_;rw[hfB.out,<-EL3.out,<-EL1.out];unfold rV;rw[eP]
end
section
variable {X:Nat->Prop}{Y:Nat->Option Obj}{D:Nat->World->Array Event->Prop}{Stop:Goroutine->World->Prop}{v:World}{cs:List Frame}{LQ:Frame}
theorem ajJ(T:Array Value)(Df:Nat)(st:LoopState)(x:Value):((Zv T Df st).params.zip #[x]).foldl (λtmps (t,a)=>tmps.setIfInBounds t a) (Zv T Df st).tmps=T.setIfInBounds 44 x:=by simp[Zv]
theorem ajK(hD:uo X D){lb sb nb Df l len cap c row:Nat}{M qx:List UInt8}{T:Array Value}{ba:Option Addr}(hTW:TWr row lb T)(hc:1<=c)(hc2:c<=65536)(hlen:len<=65536)(hM:M.length<=2000000)
  (hlb:v.heap.size<lb) (h1:lb<sb) (h2:sb<nb) (h3:nb<Df) (h4:Df<l) (hO:P7 X Y l) (hOD:P7 X Y Df) (W:World) (hI:LW v lb sb nb Df l ba len cap c M qx T .ready (Fg c len) W)
  (hnext:∀y v',OwnB v.heap.size v' y (M++rU c qx (Fg c len)++[68,79,78,69])->Kept v v'->∀w,qH X Y w v'->ru Tryz.prog D Stop (G (LQ.finish y) cs) w):
  qR Tryz.prog X Y D Stop none [{target:=.collected Df,args:=#[]}] 31 (LQ::cs) [.endRangeFunc l,.inBlock 0,.code W9] T W:=by
 obtain⟨i0,hi0,hz0,hz1,hz2⟩:=bg Au;refine Rh hD hI.lp rfl rfl hO ?_;change qR _ _ _ _ _ _ _ _ _ _ _ (W.putObj l (.loop (Zv T Df .exhausted)));have hI1:=hI.put (st':=.exhausted) ae ae ae ae ae;clear hI;generalize W.putObj l (.loop (Zv T Df .exhausted))=W1 at*;obtain⟨f,rfl⟩:=hTW;rw[aeX];refine Ec hD (qw hD (rG qI hD ag sfW λR hR τ d=>?_));replace hI1:=hI1.tape τ d;generalize({W1 with tape:=τ,drawn:=d}:World)=W2 at*;obtain⟨⟨y,hv,PV⟩,_,_,_,hdf,hK⟩:=hI1
 have hLb:(M++rU c qx (Fg c len)).length<=10000000000:=by
  have h5:(rU c qx (Fg c len)).length<=Fg c len*(c+8):=by have:=LP [] c qx (len:=len) ((List.range (Fg c len)).attach.map λx=>⟨x.1,(P8 hc).1 (gp.1 x.2)⟩);rw[aeQ [] c qx _ (Fg c len) apl]at this;exact aqb
  have h6:Fg c len<=len+1:=by unfold Fg;have:(len+c-1)/c<=(len*c+c)/c:=Nat.div_le_div_right (by have:len*1<=len*c:=nz _ hc;omega);rw[<-eU,Nat.mul_div_cancel _ ae]at this;omega
  have h7:Fg c len*(c+8)<=65537*(65536+8):=jG ae ae;rw[aQ];omega
 generalize M++rU c qx (Fg c len)=L at*;have hc0:=hv.cell;simp only[wO9,qw9]
 go_wp2_with(first|(at_builtin;refine Lib.wpList_append_own_string _ rfl _ _ 34 9 rfl v.heap.size 5 i0 Tryz.underlying34 Tryz.underlying9 hi0 hz0 hz1 hz2 _ _ _ rfl PV ⟨#[68,79,78,69]⟩ rfl (by show _+4<=maxLen;unfold maxLen;omega) (by show _+4<=_;omega) hK.size ?_;intro v9 w9 ak5 ae1 _;have hO9:OwnB v.heap.size w9 v9 (L++[68,79,78,69]):=OwnB.more ak5 rfl;have hk9:=PV.keeps ae1;have hK9:=hK.below (PV.grown ae1 hK.size)))
 have ak6:w9.heap[Df]?=some (.deferred (some [])):=hk9.same _ _ hdf rfl;refine ae2 hD Tryz.func31 ak6 hOD (λτ d=>lK (fn:=Tryz.f31) (t:=4) rfl _ _ _) ?_;exact hnext v9 _ (ownsRow_putObj hO9 _ ak6 rfl) ⟨hK9.os,hK9.output,by rw[World.putObj_size];exact hK9.size,λb hb=>(World.putObj_heap_other ae).trans (hK9.block b hb)⟩
theorem aca(hD:uo X D)(k n i c:Nat)(hk:k<=255)(hn:n<=255)(hi:i<=255)(hc:1<=c)(hc2:c<=65536)(vN vS:Value)(bc:Option Addr)(len yB:Nat)(qx:List UInt8)(hcl:qx.length=len)(hlen:len<=65536)(gm aeW ml:Nat)(Lj:List UInt8)(hml:Lj.length=ml)(hm8:8<=ml)(hm:ml<=1000000)
  (wF:Lies v (.slice bc len yB) (rF qx)) (abE:Ag v gm 0 Lj) (hgm:gm<v.heap.size) (hT:Tab v)
  (hnext:∀y v',OwnB v.heap.size v' y (rV ([67,65,73,82,78,49]++([UInt8.ofNat k,UInt8.ofNat n,UInt8.ofNat i,0]++(leB 4 c++(leB 4 (ml-8)++(leB 4 len++[0,0])))))++Lj++rU c qx (Fg c len)++[68,79,78,69])->Kept v v'->∀w,qH X Y w v'->ru Tryz.prog D Stop (G (LQ.finish y) cs) w):
  qR Tryz.prog X Y D Stop none [] 31 (LQ::cs) [.code Ir] (#[.agg #[.int .i64 (k:Int),.int .i64 (n:Int),.int .i64 (i:Int),.int .i64 (c:Int),vN,vS,.slice bc len yB],.slice (some ⟨gm,0,none⟩) ml aeW]++Array.replicate 51 undef) v:=by
 obtain⟨b,off,hba,hby⟩:∃b off,(0<len->bc=some ⟨b,off,none⟩)/\Ag v b off qx:=by
  obtain⟨ba,cap',e,_,hh⟩:=wF;injection e with e1 e2 e3;subst e1;rcases eG len with h0|h0
  .exact⟨0,0,λh=>ae,λj hj=>ae⟩
  .obtain⟨b,off,e4,_⟩:=hh 0 _ (vJ ae);refine⟨b,off,λ_=>e4,λj hj=>?_⟩;obtain⟨b',off',e5,h5⟩:=hh j _ (vJ hj);rw[e4]at e5;injection e5 with e5;injection e5 with e6 e7;subst e6 e7;exact h5
 have ak7:len<=yB:=by obtain⟨ba,cap',e,h,_⟩:=wF;injection e with e1 e2 e3;rw[rH]at h;omega
 refine aeV hD k n i c hk hn hi hc hc2 vN vS bc len yB hlen gm aeW ml Lj hml hm8 hm abE hgm hT λT lb g4 cap4 V hTW hlb anq hL hO hrow hK=>?_
 obtain⟨M,eM⟩:∃M,rV ([67,65,73,82,78,49]++([UInt8.ofNat k,UInt8.ofNat n,UInt8.ofNat i,0]++(leB 4 c++(leB 4 (ml-8)++(leB 4 len++[0,0])))))++Lj=M:=⟨_,rfl⟩
 have hMl:M.length<=2000000:=by rw[<-eM,aQ,rY,hml];simp only[aQ,ry,bM,dA];omega
 rw[eM]at hnext hO;clear eM;rw[ajH];refine qw hD (yI hD ?_);rw[aeY];simp only[List.range,List.range.loop];obtain⟨f,rfl⟩:=hTW;refine qm qI hD (.pointer (some ⟨v.heap.size,6,none⟩)) kU rfl ag (λz _=>aI) ?_;walk_nrm;refine qm qI hD (.slice bc len yB) kU rfl ag (λz hz=>by have c6:=qf.cell (w:=z) (show z.heap[v.heap.size]?=_ by rw[hz];exact hrow) (i:=6) rfl;go_simp) ?_;walk_nrm;refine qm qI hD (.pointer (some ⟨v.heap.size,3,none⟩)) kU rfl ag (λz _=>aI) ?_;walk_nrm;refine qm qI hD (.int .i64 (c:Int)) kU rfl ag (λz hz=>by have c3:=qf.cell (w:=z) (show z.heap[v.heap.size]?=_ by rw[hz];exact hrow) (i:=3) rfl;go_simp) ?_;walk_nrm;refine uZ hD kU rfl ax Tryz.func55 ag (c:=aeR) ag (vs:=#[.slice bc len yB,.int .i64 (c:Int)]) (n:=7) fC ag ?_;refine ajE hD bc len yB c hc ?_;rw[uD kU];show qR _ _ _ _ _ _ _ _ _ _ _ _;walk_nrm;have hL2:=(hL.alloc (.cells #[.slice bc len yB] 34)).alloc (.cells #[.int .i64 (c:Int)] 3);have hO2:=(hO.alloc (.cells #[.slice bc len yB] 34)).alloc (.cells #[.int .i64 (c:Int)] 3);have hS2:=(Boxed.new V 34 (.slice bc len yB)).alloc (.cells #[.int .i64 (c:Int)] 3);have OH:=Boxed.new (V.alloc (.cells #[.slice bc len yB] 34)) 3 (.int .i64 (c:Int));have hK2:Kept v ((V.alloc (.cells #[.slice bc len yB] 34)).alloc (.cells #[.int .i64 (c:Int)] 3)):=hK.below (((aA v.heap.size V).alloc hK.size _).alloc (by rw[lL];have:=hK.size;omega) _);have hs2:((V.alloc (.cells #[.slice bc len yB] 34)).alloc (.cells #[.int .i64 (c:Int)] 3)).heap.size=V.heap.size+2:=ai;rw[lL]at OH;generalize(V.alloc (.cells #[.slice bc len yB] 34)).alloc (.cells #[.int .i64 (c:Int)] 3)=V2 at*;refine r_ hD (yw hD (Zx hD (gf:=99) (lb:=#[.pointer (some ⟨V.heap.size,0,none⟩),.pointer (some ⟨V.heap.size+1,0,none⟩)]) (λfr h=>by simp only[Frame.eval,h];rfl) Tryz.func99 ag (c:=Iq) ag λhOD hOl=>?_));have en:Tryz.f99.ntmps-(1+(#[.pointer (some ⟨V.heap.size,0,none⟩),.pointer (some ⟨V.heap.size+1,0,none⟩)]:Array Value).size)=28:=by rw[Tryz.ntmps99];rfl
 rw[en];refine U4 hD _ _ _ λT1 hT1=>?_
 have hI0:∀T',LW v lb V.heap.size (V.heap.size+1) V2.heap.size (V2.heap.size+1) bc len yB c M qx T' .ready 0 ((V2.alloc (.deferred (some []))).alloc (.loop (Zv T' V2.heap.size .ready))):=λT'=>by
  refine⟨⟨_,(hL2.alloc _).alloc _,?_⟩,(hS2.alloc _).alloc _,(OH.alloc _).alloc _,?_,?_,hK2.below (((aA v.heap.size V2).alloc hK2.size _).alloc (by rw[lL];have:=hK2.size;omega) _)⟩
  .have:=(hO2.alloc (.deferred (some []))).alloc (.loop (Zv T' V2.heap.size .ready));simpa[rU]using this
  .have:=World.alloc_heap_new (V2.alloc (.deferred (some []))) (.loop (Zv T' V2.heap.size .ready));rwa[lL]at this
  .exact(bK _ _ _ ai).trans (World.alloc_heap_new V2 _)
 refine ahz hD (V2.heap.size+1) V.heap.size (V.heap.size+1) b off len yB c hc hc2 ae ak7 bc hba (Zv _ V2.heap.size .ready) rfl hOl (LW v lb V.heap.size (V.heap.size+1) V2.heap.size (V2.heap.size+1) bc len yB c M qx _ .ready) (λj W h=>⟨h.s,h.n,h.lp⟩) (λj W τ d h=>h.tape τ d) (λj W LQ cs hj hI hnx=>?_) (λW hI=>?_) (Fg c len) 0 T1 _ ae (by rw[fF];exact hT1) (hI0 _)
 .rw[ajJ];exact aeZ hD (Zu rfl) hc hc2 hlen hcl hMl hT hby hlb ae ae ae ae hOl j W hj hI hnx
 .rw[Oi];exact ajK hD (Zu rfl) hc hc2 hlen hMl hlb ae ae ae ae hOl hOD W hI hnext
end
end Go.Proofs.Y
namespace Go.Proofs.Y
open Go.RowKit Go.Deep Go.Lf Go.Conc Go.Hp
noncomputable def wV:Code:=Tryz.f17.body.getD .skip
noncomputable def aC6:Code:=qG (qo (qo (qo (qo (qo wV)))))
noncomputable def Gf:Code:=qo (qo (qo (qo (qo (qo wV)))))
noncomputable def yL:Code:=Lc (Lc (qo aC6))
noncomputable def LV:{x:Array Oper//x=sN (qG aC6)}:=⟨_,by(simp only[aC6,wV,qG,qo,sN,Tryz.f17,aB];rfl)⟩
noncomputable def BX:Array Oper:=LV.1
theorem ajL:aC6=.seq (.region 6 BX true) (.block 0 (.loop yL)):=ag
theorem W_:BX.size=9:=ag
theorem ajM:Tryz.prog.follows .mixedOrders=true:=ag
theorem sfA:∃fn,Tryz.prog.funcs[17]?=some fn:=⟨_,Tryz.func17⟩
def T6(f:Nat->Value)(pc K N:Nat)(vb vn vs vm vh vj:Value)(b0 b1 b2 b3 b4 b5 b8:Bool):Array Value:=#[vb,f 1,f 2,.pointer (some ⟨pc,0,none⟩),f 4,f 5,vn,vs,vm,vh,f 10,f 11,f 12,f 13,f 14,f 15,f 16,f 17,f 18,f 19,f 20,f 21,f 22,f 23,f 24,f 25,f 26,f 27,(if b0 then .pointer (some ⟨pc,0,none⟩)else f 28),(if b1 then .int .i64 ((K:Nat):Int)else f 29),(if b2 then .pointer (some ⟨pc,1,none⟩)else f 30),(if b3 then .int .i64 ((N:Nat):Int)else f 31),(if b4 then vb else f 32),(if b5 then vj else f 33),f 34,f 35,(if b8 then .int .i64 0 else f 36),f 37,f 38,f 39,f 40,f 41,f 42,f 43,f 44,f 45,f 46,f 47,f 48,f 49,f 50,f 51,f 52,f 53,f 54,f 55,f 56,f 57,f 58,f 59]
def TA(pc:Nat)(vn vs vm vh x:Value)(T:Array Value):Prop:=∃f:Nat->Value,T=#[f 0,f 1,f 2,.pointer (some ⟨pc,0,none⟩),f 4,f 5,vn,vs,vm,vh,f 10,f 11,f 12,f 13,f 14,f 15,f 16,f 17,f 18,f 19,f 20,f 21,f 22,f 23,f 24,f 25,f 26,f 27,f 28,f 29,f 30,f 31,f 32,f 33,f 34,f 35,x,f 37,f 38,f 39,f 40,f 41,f 42,f 43,f 44,f 45,f 46,f 47,f 48,f 49,f 50,f 51,f 52,f 53,f 54,f 55,f 56,f 57,f 58,f 59]
theorem ak8{pc:Nat}{vn vs vm vh x:Value}{T:Array Value}(h:T=#[T.getD 0 undef,T.getD 1 undef,T.getD 2 undef,.pointer (some ⟨pc,0,none⟩),T.getD 4 undef,T.getD 5 undef,vn,vs,vm,vh,T.getD 10 undef,T.getD 11 undef,T.getD 12 undef,T.getD 13 undef,T.getD 14 undef,T.getD 15 undef,T.getD 16 undef,T.getD 17 undef,T.getD 18 undef,T.getD 19 undef,T.getD 20 undef,T.getD 21 undef,T.getD 22 undef,T.getD 23 undef,T.getD 24 undef,T.getD 25 undef,T.getD 26 undef,T.getD 27 undef,T.getD 28 undef,T.getD 29 undef,T.getD 30 undef,T.getD 31 undef,T.getD 32 undef,T.getD 33 undef,T.getD 34 undef,T.getD 35 undef,x,T.getD 37 undef,T.getD 38 undef,T.getD 39 undef,T.getD 40 undef,T.getD 41 undef,T.getD 42 undef,T.getD 43 undef,T.getD 44 undef,T.getD 45 undef,T.getD 46 undef,T.getD 47 undef,T.getD 48 undef,T.getD 49 undef,T.getD 50 undef,T.getD 51 undef,T.getD 52 undef,T.getD 53 undef,T.getD 54 undef,T.getD 55 undef,T.getD 56 undef,T.getD 57 undef,T.getD 58 undef,T.getD 59 undef]):TA pc vn vs vm vh x T:=⟨λi=>T.getD i undef,h⟩
def Left(x:Value)(rest:List Nat):Prop:=(rest=[7]/\x=.int .i64 0)\/rest=[7,8]\/rest=[8,7]
noncomputable def FY(T:Array Value)(rest:List Nat):Frame:=(base 17).at ⟨T,[]⟩ (.inRegion BX (6::rest)::[.code (.block 0 (.loop yL)),.code Gf])
theorem acb:ahr 30=true:=au
section
variable {X:Nat->Prop}{Y:Nat->Option Obj}{D:Nat->World->Array Event->Prop}{Stop:Goroutine->World->Prop}{cs:List Frame}
theorem Zy(b0 b1 b2 b3 b4 b5 b8:Bool):Region.ready .any BX #[b0,b1,b2,b3,b4,b5,false,false,b8]≠[]:=by
 have mem:∀i o,BX[i]?=some o->(#[b0,b1,b2,b3,b4,b5,false,false,b8]:Array Bool).getD i true=false->(∀e∈o.after,(#[b0,b1,b2,b3,b4,b5,false,false,b8]:Array Bool).getD e.on false=true)->Region.ready .any BX #[b0,b1,b2,b3,b4,b5,false,false,b8]≠[]:=λi o ho h1 h2 e=>by have:=mem_ready (md:=.any).2 ⟨h1,o,ho,λe he _=>h2 e he⟩;rw[e]at this;cases this
 cases b0
 .exact mem 0 _ dD rfl ai
 cases b1
 .exact mem 1 _ dD rfl ai
 cases b2
 .exact mem 2 _ dD rfl ai
 cases b3
 .exact mem 3 _ dD rfl ai
 cases b4
 .exact mem 4 _ dD rfl ai
 cases b5
 .exact mem 5 _ dD rfl ai
 .exact mem 6 _ dD rfl ai
def J5(v0:World)(l:List UInt8)(b5:Bool)(vj:Value)(v:World):Prop:=(b5=false/\v=v0)\/(b5=true/\rJ v0.heap.size v0 v/\OwnB v0.heap.size v vj l)
theorem J5.bel{v0 v:World}{l:List UInt8}{b5:Bool}{vj:Value}(h:J5 v0 l b5 vj v):rJ v0.heap.size v0 v:=by
 rcases h with⟨_,rfl⟩|⟨_,h,_⟩
 .exact rJ.refl _ _
 .exact h
def DC6(b0 b1 b2 b3 b4 b5:Bool):Prop:=(b1=true->b0=true)/\(b3=true->b2=true)/\(b5=true->b4=true)
theorem left_of(b8:Bool)(fuel t:Nat)(hf:fuel=1+(!b8).toNat)(x:Value):Left (if b8 then .int .i64 0 else x) (Region.linearise.go .any BX fuel t #[true,true,true,true,true,true,true,false,b8] []):=by
 have r0:Region.ready .any BX #[true,true,true,true,true,true,true,false,true]=[7]:=ag;have r1:Region.ready .any BX #[true,true,true,true,true,true,true,false,false]=[7,8]:=ag;have r2:Region.ready .any BX #[true,true,true,true,true,true,true,true,false]=[8]:=ag;cases b8
 .obtain rfl:fuel=0+1+1:=og;obtain⟨i,t',hi,e⟩:=go_succ (ops:=BX) (0+1) t #[true,true,true,true,true,true,true,false,false] (by rw[r1];simp);rw[e];rw[r1]at hi;simp at hi;rcases hi with rfl|rfl
  .obtain⟨i2,t2,hi2,e2⟩:=go_succ (ops:=BX) 0 t' #[true,true,true,true,true,true,true,true,false] (by rw[r2];simp);rw[r2]at hi2;simp at hi2;subst hi2;refine .inr (.inl ?_);show 7::Region.linearise.go .any BX (0+1) t' #[true,true,true,true,true,true,true,true,false] []=_;rw[e2];rfl
  .obtain⟨i2,t2,hi2,e2⟩:=go_succ (ops:=BX) 0 t' #[true,true,true,true,true,true,true,false,true] (by rw[r0];simp);rw[r0]at hi2;simp at hi2;subst hi2;refine .inr (.inr ?_);show 8::Region.linearise.go .any BX (0+1) t' #[true,true,true,true,true,true,true,false,true] []=_;rw[e2];rfl
 .obtain rfl:fuel=0+1:=og;obtain⟨i,t',hi,e⟩:=go_succ (ops:=BX) 0 t #[true,true,true,true,true,true,true,false,true] (by rw[r0];simp);rw[r0]at hi;simp at hi;subst hi;refine .inl ⟨?_,rfl⟩;rw[e];rfl
theorem acd(hD:uo X D){f:Nat->Value}{pc K N m cap:Nat}{bo:Option Addr}{vn vs vm vh vb:Value}{v0:World}{l:List UInt8}(hvb:vb=.slice bo m cap)(hK:v0.cell? ⟨pc,0,none⟩=some (.int .i64 ((K:Nat):Int)))(hN:v0.cell? ⟨pc,1,none⟩=some (.int .i64 ((N:Nat):Int)))
  (ak9:∀τ d,Calls Tryz.prog 30 #[.slice bo m cap] {v0 with tape:=τ,drawn:=d} λr w'=>rJ v0.heap.size v0 w'/\∃v,r=.returned v/\OwnB v0.heap.size w' v l)
  (hnext:∀(T:Array Value)(rest:List Nat)(x vj:Value)(v:World),TA pc vn vs vm vh x T->Left x rest->rJ v0.heap.size v0 v->OwnB v0.heap.size v vj l->sK Tryz.prog X Y D Stop 29 (FY T rest::cs) [.code xW] ⟨#[.int .i64 ((K:Nat):Int),.int .i64 ((N:Nat):Int),vj]++Array.replicate 23 undef,[]⟩ v):
  ∀(fuel t:Nat)(b0 b1 b2 b3 b4 b5 b8:Bool)(vj:Value)(v:World),fuel=2+(!b0).toNat+(!b1).toNat+(!b2).toNat+(!b3).toNat+(!b4).toNat+(!b5).toNat+(!b8).toNat->DC6 b0 b1 b2 b3 b4 b5->J5 v0 l b5 vj v->
   sK Tryz.prog X Y D Stop 17 cs (.inRegion BX (Region.linearise.go .any BX fuel t #[b0,b1,b2,b3,b4,b5,false,false,b8] [])::[.code (.block 0 (.loop yL)),.code Gf]) ⟨T6 f pc K N vb vn vs vm vh vj b0 b1 b2 b3 b4 b5 b8,[]⟩ v:=by
 intro fuel
 induction fuel with
 |zero=>intro t b0 b1 b2 b3 b4 b5 b8 vj v hf;omega
 |succ fuel ih=>
  intro t b0 b1 b2 b3 b4 b5 b8 vj v hf hC hJ;obtain⟨i,t',hi,e⟩:=go_succ (ops:=BX) fuel t _ (Zy b0 b1 b2 b3 b4 b5 b8);rw[e];obtain⟨h1,o,ho,hall⟩:=mem_ready.1 hi;have hb:=hJ.bel;have hlt:i<9:=by rw[<-W_];exact(a_.1 ho).1
  have hKv:v.cell? ⟨pc,0,none⟩=some (.int .i64 ((K:Nat):Int)):=PZ (w:={v0 with tape:=v.tape}) hb (ak _) hK;have hNv:v.cell? ⟨pc,1,none⟩=some (.int .i64 ((N:Nat):Int)):=PZ (w:={v0 with tape:=v.tape}) hb (ak _) hN
  match i,hlt with
  |0,_=>
   obtain rfl:b0=false:=h1;refine qm qI hD (.pointer (some ⟨pc,0,none⟩)) dD rfl ag (λz _=>n_) ?_;exact ih t' true b1 b2 b3 b4 b5 b8 vj v jo ⟨λh=>rfl,hC.2⟩ hJ
  |1,_=>
   obtain rfl:b1=false:=h1
   obtain rfl:b0=true:=by exact aqQ
   refine qm qI hD (.int .i64 ((K:Nat):Int)) dD rfl ag (λz hz=>by have hc:z.cell? ⟨pc,0,none⟩=some (.int .i64 ((K:Nat):Int)):=(by simp only[World.cell?,hz];exact hKv);unfold T6;go_simp) ?_;exact ih t' true true b2 b3 b4 b5 b8 vj v jo ⟨λh=>rfl,hC.2⟩ hJ
  |2,_=>
   obtain rfl:b2=false:=h1;refine qm qI hD (.pointer (some ⟨pc,1,none⟩)) dD rfl ag (λz _=>n_) ?_;exact ih t' b0 b1 true b3 b4 b5 b8 vj v jo ⟨hC.1,λh=>rfl,hC.2.2⟩ hJ
  |3,_=>
   obtain rfl:b3=false:=h1
   obtain rfl:b2=true:=by exact aqQ
   refine qm qI hD (.int .i64 ((N:Nat):Int)) dD rfl ag (λz hz=>by have hc:z.cell? ⟨pc,1,none⟩=some (.int .i64 ((N:Nat):Int)):=(by simp only[World.cell?,hz];exact hNv);unfold T6;go_simp) ?_;exact ih t' b0 b1 true true b4 b5 b8 vj v jo ⟨hC.1,λh=>rfl,hC.2.2⟩ hJ
  |4,_=>
   obtain rfl:b4=false:=h1;refine qm qI hD (vb) dD rfl ag (λz _=>n_) ?_;exact ih t' b0 b1 b2 b3 true b5 b8 vj v jo ⟨hC.1,hC.2.1,λh=>rfl⟩ hJ
  |5,_=>
   obtain rfl:b5=false:=h1
   obtain rfl:b4=true:=by exact aqQ
   obtain⟨_,rfl⟩|⟨h,_⟩:=hJ
   .refine IY qI hD (qI.body acb ag) (R:=λy w'=>rJ v.heap.size v w'/\OwnB v.heap.size w' y l) dD rfl ax (vs:=#[.slice bo m cap]) (by rw[<-hvb];simp[Act.eval,T6]) (aoV ag) (λτ d=>(ak9 τ d).mono (by
     rintro r w' ⟨h1,y,rfl,h2⟩;exact⟨y,rfl,h1,h2⟩)) λy v' hy=>?_
    exact ih t' b0 b1 b2 b3 true true b8 y v' jo ⟨hC.1,hC.2.1,λh=>rfl⟩ (.inr ⟨rfl,hy.1,hy.2⟩)
   .cases h
  |6,_=>
   have hal:b1=true/\b3=true/\b5=true:=by simp only[BX,LV]at ho;cases ho;exact⟨hall ⟨1,.data⟩ ai rfl,hall ⟨3,.data⟩ ai rfl,hall ⟨5,.data⟩ ai rfl⟩
   obtain⟨rfl,rfl,rfl⟩:=hal;obtain rfl:=hC.1 rfl;obtain rfl:=hC.2.1 rfl;obtain rfl:=hC.2.2 rfl;obtain⟨h,_⟩|⟨_,hb,hO⟩:=hJ
   .cases h
   .refine uZ hD dD rfl ax Tryz.func29 ag (c:=xW) ag (vs:=#[.int .i64 ((K:Nat):Int),.int .i64 ((N:Nat):Int),vj]) (n:=23) (by simp[Act.eval,T6]) ag ?_;exact hnext _ _ _ vj v (ak8 rfl) (left_of b8 fuel t' jo (f 36)) hb hO
  |7,_=>
   simp only[BX,LV]at ho;cases ho;have:=hall _ (nK.2 (dV.2 rfl)) rfl;cases this
  |8,_=>
   obtain rfl:b8=false:=h1;refine qm qI hD (.int .i64 0) dD rfl ag (λz _=>n_) ?_;exact ih t' b0 b1 b2 b3 b4 b5 true vj v jo hC hJ
