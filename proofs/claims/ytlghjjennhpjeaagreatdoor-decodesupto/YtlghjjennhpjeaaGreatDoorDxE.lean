import Derived.Test.YtlghjjennhpjeaaGreatDoorScanP
set_option maxHeartbeats 8000000
set_option maxRecDepth 100000
namespace Go.Proofs.Y
open Go.Proofs.Tryz
open Go.RowKit Go.Deep
theorem Hz{w:ah}{B B' e size n:Nat}{v:ai}{xs:aK}(h:w.ownsRow B e size v n xs)(hB:B'<=B):w.ownsRow B' e size v n xs:=by
 refine⟨h.1,?_⟩;rcases h.2 with x|⟨g,cap,cur,h1,h2,h3⟩
 .exact .inl x
 .exact .inr ⟨g,cap,cur,h1,bF hB h2,h3⟩
theorem UL{w:ah}{B e size n:Nat}{v:ai}{xs:aK}(h:w.ownsRow B e size v n xs):∃a m c,v=.slice a m c:=by
 rcases h.2 with⟨h1,_⟩|⟨g,cap,cur,h1,_⟩
 .exact⟨_,_,_,h1⟩
 .exact⟨_,_,_,h1⟩
def Y9:Code->Code| .seq x _=>x|c=>c
def Su:Code->Code| .seq _ x=>x|c=>c
noncomputable def Ej:Code:=Tryz.f12.body.getD .skip
noncomputable def ps3:Code:=Su (Su (Su Ej))
noncomputable def ac6:Code:=Su ps3
theorem agc:Ej=.seq (Y9 Ej) (.seq (Y9 (Su Ej)) (.seq (Y9 (Su (Su Ej))) ps3)):=ak
theorem aiK:ps3=.seq (Y9 ps3) ac6:=ak
def Tps(f:Nat->ai)(a0 a2 a5 a6:ai):aH:=#[a0,f 1,a2,f 3,f 4,a5,a6,f 7,f 8,f 9,f 10,f 11,f 12,f 13,f 14,f 15,f 16,f 17,f 18,f 19,f 20,f 21,f 22,f 23,f 24,f 25,f 26,f 27,f 28,f 29,f 30,f 31,f 32,f 33,f 34,f 35,f 36,f 37,f 38,f 39,f 40,f 41,f 42,f 43,f 44,f 45,f 46,f 47,f 48,f 49,f 50,f 51,f 52,f 53,f 54,f 55,f 56,f 57,f 58,f 59,f 60,f 61,f 62,f 63,f 64,f 65,f 66,f 67,f 68,f 69,f 70,f 71,f 72,f 73,f 74,f 75,f 76,f 77,f 78,f 79,f 80]
abbrev aqr(T:aH):aH:=Tps (λi=>T.getD i undef) (T.getD 0 undef) (T.getD 2 undef) (T.getD 5 undef) (T.getD 6 undef)
theorem Nz{T:aH}(h:T=aqr T):T=aqr T:=h
def TPs(hs xb:Nat)(v:ai)(T:aH):Prop:=∃f:Nat->ai,T=Tps f v (.pointer (some ⟨hs,0,none⟩)) (.pointer (some ⟨hs+1,0,none⟩)) (.pointer (some ⟨xb,0,none⟩))
section
variable {bb bo cap:Nat}{l:aj}{w wz:ah}{xb at_:Nat}{T:aH}
theorem Gx{e:Nat×Nat}(he:qN l=.error e)(hT:TPs w.heap.size xb (.slice (some ⟨bb,bo,none⟩) l.length cap) T)(hS:yX wz (w.heap.size+1) (.slice (some ⟨bb,bo,none⟩) l.length cap) at_ (some e))(hR:ql wz w.heap.size (sG 0 0 0 0 (.slice none 0 0) (.slice none 0 0) (.slice none 0 0)) 41)(hB:Below w.heap.size w wz):
  ac6.wp prog (bodyPost prog Tryz.f12 (xO l w)) ⟨T,[]⟩ wz:=by
 have HE:Hid (qN l=.error e):=he;clear he;obtain⟨f,rfl⟩:=hT;unfold Tps;have z2:=hS.Eo.c2;have z3:=hS.Eo.c3;have zE:((e.1:Int)==0)=false:=by have:=hS.errs e rfl;simp;omega
 simp only[eR,pR]at z2 z3;clear hS;have d0:=hR.cell (i:=0) rfl;have f0:=hR.frozen 0;have d1:=hR.cell (i:=1) rfl;have f1:=hR.frozen 1;have d2:=hR.cell (i:=2) rfl;have f2:=hR.frozen 2;have d3:=hR.cell (i:=3) rfl;have f3:=hR.frozen 3;have d4:=hR.cell (i:=4) rfl;have f4:=hR.frozen 4;have d5:=hR.cell (i:=5) rfl;have f5:=hR.frozen 5;have d6:=hR.cell (i:=6) rfl;have f6:=hR.frozen 6
 conv in ac6=>simp only[ac6,ps3,Ej,Su,Tryz.f12,bf]
 go_upto_region 14 with fail
 go_region;go_wp2;have hF:=ql.drew (((((((hR.set 0 (.int .i64 0)).set 1 (.int .i64 0)).set 2 (.int .i64 0)).set 3 (.int .i64 0)).set 4 (.slice none 0 0)).set 5 (.slice none 0 0)).set 6 (.slice none 0 0));have hG:=(((((((hB.setCell (p:=⟨w.heap.size,0,none⟩) (ay _) (.int .i64 0)).setCell (p:=⟨w.heap.size,1,none⟩) (ay _) (.int .i64 0)).setCell (p:=⟨w.heap.size,2,none⟩) (ay _) (.int .i64 0)).setCell (p:=⟨w.heap.size,3,none⟩) (ay _) (.int .i64 0)).setCell (p:=⟨w.heap.size,4,none⟩) (ay _) (.slice none 0 0)).setCell (p:=⟨w.heap.size,5,none⟩) (ay _) (.slice none 0 0)).setCell (p:=⟨w.heap.size,6,none⟩) (ay _) (.slice none 0 0)).drew;have hF2:_=some (Obj.cells _ 41 (0,0)):=hF;refine dS (w_ (p:=2) (u:=3) (t:=4) rfl _ _ w.heap.size 41 _ (0,0) _ aF hF2 underlying41 rfl ak) rfl ?_;refine⟨hG,?_⟩;rw[HE.out];rfl
theorem agd{k n i ch B0:Nat}{ns:List (aj)}{zs:aC}{qC:aj}{vN vS vC:ai}(he:qN l=.ok ⟨k,n,i,ch,ns,zs,qC⟩)(hT:TPs w.heap.size xb (.slice (some ⟨bb,bo,none⟩) l.length cap) T)(hS:yX wz (w.heap.size+1) (.slice (some ⟨bb,bo,none⟩) l.length cap) at_ none)(hR:ql wz w.heap.size (sG 0 0 0 0 (.slice none 0 0) (.slice none 0 0) (.slice none 0 0)) 41)(hB:Below w.heap.size w wz)(hX:Wp wz xb k n i ch vN vS vC)
  (hN:wz.ownsRow B0 9 1 vN ns.length (zC ns)) (hO:wz.ownsRow B0 3 1 vS zs.length (uH zs)) (hC:wz.ownsRow B0 5 1 vC qC.length (rP qC)) (PW:w.heap.size<B0):
  ac6.wp prog (bodyPost prog Tryz.f12 (xO l w)) ⟨T,[]⟩ wz:=by
 have HE:Hid (qN l=_):=he;clear he;obtain⟨f,rfl⟩:=hT;unfold Tps;have z2:=hS.Eo.c2;simp only[eR]at z2;clear hS;obtain⟨pn,qn,cn,rfl⟩:=UL hN;obtain⟨ps,qs,cs,rfl⟩:=UL hO;obtain⟨pc,qc,cc,rfl⟩:=UL hC;have d0:=hR.cell (i:=0) rfl;have f0:=hR.frozen 0;have x0:=hX.row.cell (i:=0) rfl;have d1:=hR.cell (i:=1) rfl;have f1:=hR.frozen 1;have x1:=hX.row.cell (i:=1) rfl;have d2:=hR.cell (i:=2) rfl;have f2:=hR.frozen 2;have x2:=hX.row.cell (i:=2) rfl;have d3:=hR.cell (i:=3) rfl;have f3:=hR.frozen 3;have x3:=hX.row.cell (i:=3) rfl;have d4:=hR.cell (i:=4) rfl;have f4:=hR.frozen 4;have x4:=hX.row.cell (i:=4) rfl;have d5:=hR.cell (i:=5) rfl;have f5:=hR.frozen 5;have x5:=hX.row.cell (i:=5) rfl;have d6:=hR.cell (i:=6) rfl;have f6:=hR.frozen 6;have x6:=hX.row.cell (i:=6) rfl
 conv in ac6=>simp only[ac6,ps3,Ej,Su,Tryz.f12,bf]
 go_wp2;have hF:=(((((((hR.set 0 (.int .i64 (k:Int))).set 1 (.int .i64 (n:Int))).set 2 (.int .i64 (i:Int))).set 3 (.int .i64 (ch:Int))).set 4 (.slice pn qn cn)).set 5 (.slice ps qs cs)).set 6 (.slice pc qc cc));have hG:=(((((((hB.setCell (p:=⟨w.heap.size,0,none⟩) (ay _) (.int .i64 (k:Int))).setCell (p:=⟨w.heap.size,1,none⟩) (ay _) (.int .i64 (n:Int))).setCell (p:=⟨w.heap.size,2,none⟩) (ay _) (.int .i64 (i:Int))).setCell (p:=⟨w.heap.size,3,none⟩) (ay _) (.int .i64 (ch:Int))).setCell (p:=⟨w.heap.size,4,none⟩) (ay _) (.slice pn qn cn)).setCell (p:=⟨w.heap.size,5,none⟩) (ay _) (.slice ps qs cs)).setCell (p:=⟨w.heap.size,6,none⟩) (ay _) (.slice pc qc cc));have hT:=((((((((qG.refl wz.heap.size (· =w.heap.size) wz).setCell (p:=⟨w.heap.size,0,none⟩) (.inr rfl) (.int .i64 (k:Int))).setCell (p:=⟨w.heap.size,1,none⟩) (.inr rfl) (.int .i64 (n:Int))).setCell (p:=⟨w.heap.size,2,none⟩) (.inr rfl) (.int .i64 (i:Int))).setCell (p:=⟨w.heap.size,3,none⟩) (.inr rfl) (.int .i64 (ch:Int))).setCell (p:=⟨w.heap.size,4,none⟩) (.inr rfl) (.slice pn qn cn)).setCell (p:=⟨w.heap.size,5,none⟩) (.inr rfl) (.slice ps qs cs)).setCell (p:=⟨w.heap.size,6,none⟩) (.inr rfl) (.slice pc qc cc));have hF2:_=some (Obj.cells _ 41 (0,0)):=hF;refine dS (w_ (p:=2) (u:=3) (t:=4) rfl _ _ w.heap.size 41 _ (0,0) _ aF hF2 underlying41 rfl ak) rfl ?_;refine⟨hG,?_⟩;rw[HE.out];exact⟨_,_,_,rfl,Hz (qY hN (λg hg=>hT.block g (hN.lt g hg).2 (by have:=(hN.lt g hg).1;omega))) ag,Hz (qY hO (λg hg=>hT.block g (hO.lt g hg).2 (by have:=(hO.lt g hg).1;omega))) ag,Hz (qY hC (λg hg=>hT.block g (hC.lt g hg).2 (by have:=(hC.lt g hg).1;omega))) ag⟩
structure Hd(w:ah)(bb bo cap:Nat)(l:aj)(k n i ch xb:Nat)(r:Option (Nat×Nat))(T:aH)(w3:ah):Prop where
 t:TPs w.heap.size xb (.slice (some ⟨bb,bo,none⟩) l.length cap) T
 s:yX w3 (w.heap.size+1) (.slice (some ⟨bb,bo,none⟩) l.length cap) 0 r
 x:Wp w3 xb k n i ch (.slice none 0 0) (.slice none 0 0) (.slice none 0 0)
 r:ql w3 w.heap.size (sG 0 0 0 0 (.slice none 0 0) (.slice none 0 0) (.slice none 0 0)) 41
 b:xM w3 bb bo l
 xG:Below w.heap.size w w3
 lt:w.heap.size+2<=xb
 sz:w3.heap.size=xb+1
theorem Xz{r:Option (Nat×Nat)}{k n i ch:Nat}{Q:Ending->ah->Prop}(hb:xM w bb bo l)(Ah:bb<w.heap.size)(afw:∀sb w1,bb≠sb->yX w1 sb (.slice (some ⟨bb,bo,none⟩) l.length cap) 0 none->xM w1 bb bo l->bb<w1.heap.size->Calls prog 28 #[.pointer (some ⟨sb,0,none⟩)] w1 λq w'=>q=.returned (.agg (sG k n i ch (.slice none 0 0) (.slice none 0 0) (.slice none 0 0)).toArray)/\yX w' sb (.slice (some ⟨bb,bo,none⟩) l.length cap) 0 r/\qG w1.heap.size (· =sb) w1 w')
  (h:∀T xb w3,Hd w bb bo cap l k n i ch xb r T w3->ps3.wp prog (bodyPost prog Tryz.f12 Q) ⟨T,[]⟩ w3):
  Calls prog 12 #[(.slice (some ⟨bb,bo,none⟩) l.length cap)] w Q:=by
 unfold sG at afw
 have hA:ql ((w.alloc (.cells (sG 0 0 0 0 (.slice none 0 0) (.slice none 0 0) (.slice none 0 0)).toArray 41)).alloc (.cells (Q3 (.slice (some ⟨bb,bo,none⟩) l.length cap) 0 0 0).toArray 81)) (w.heap.size+1) (Q3 (.slice (some ⟨bb,bo,none⟩) l.length cap) 0 0 0) 81:=by have:=ql.made (w.alloc (.cells (sG 0 0 0 0 (.slice none 0 0) (.slice none 0 0) (.slice none 0 0)).toArray 41)) (Q3 (.slice (some ⟨bb,bo,none⟩) l.length cap) 0 0 0) 81;exact axb
 have RV:qG w.heap.size (λ_=>False) w ((w.alloc (.cells (sG 0 0 0 0 (.slice none 0 0) (.slice none 0 0) (.slice none 0 0)).toArray 41)).alloc (.cells (Q3 (.slice (some ⟨bb,bo,none⟩) l.length cap) 0 0 0).toArray 81)):=((qG.refl _ _ _).alloc (ay _) _).alloc aA _;have hR:ql ((w.alloc (.cells (sG 0 0 0 0 (.slice none 0 0) (.slice none 0 0) (.slice none 0 0)).toArray 41)).alloc (.cells (Q3 (.slice (some ⟨bb,bo,none⟩) l.length cap) 0 0 0).toArray 81)) w.heap.size (sG 0 0 0 0 (.slice none 0 0) (.slice none 0 0) (.slice none 0 0)) 41:=(ql.made w _ _).later (S:=λ_=>False) (qG.alloc (qG.refl _ _ _) (ay _) _) aA id;have hsz:((w.alloc (.cells (sG 0 0 0 0 (.slice none 0 0) (.slice none 0 0) (.slice none 0 0)).toArray 41)).alloc (.cells (Q3 (.slice (some ⟨bb,bo,none⟩) l.length cap) 0 0 0).toArray 81)).heap.size=w.heap.size+2:=aA;have AZ:yX _ (w.heap.size+1) (.slice (some ⟨bb,bo,none⟩) l.length cap) 0 none:=⟨hA,DW⟩;have tV:=hb.later RV Ah id;unfold sG Q3 at AZ tV hR RV hsz;refine calls_of_wp (c:=Ej) func12 ak ?_;simp only[ntmps12,fH,dQ,d_,Nat.reduceAdd,Nat.reduceSub,eU,eQ,eH,eP,dw,df];rw[agc];simp only[Y9,Su,Ej,Tryz.f12,bf]
 go_upto_region 2 with fail
 generalize(w.alloc (Obj.cells (List.toArray [Value.int .i64 ((0:Nat):Int),Value.int .i64 ((0:Nat):Int),Value.int .i64 ((0:Nat):Int),Value.int .i64 ((0:Nat):Int),Value.slice none 0 0,Value.slice none 0 0,Value.slice none 0 0]) 41)).alloc (Obj.cells (List.toArray [Value.slice (some ⟨bb,bo,none⟩) l.length cap,Value.int .i64 ((0:Nat):Int),Value.int .i64 ((0:Nat):Int),Value.int .i64 ((0:Nat):Int)]) 81)=w1 at AZ tV hR RV hsz⊢
 go_wp2_with(first|(go_at_call 28;refine(afw (w.heap.size+1) w1 ag AZ tV ag).mono ?_;rintro q w2 ⟨rfl,Jc,zJ⟩))
 have LX:=hR.later zJ ag ag;have rq:=tV.later zJ ag ag;have apD:=zJ.size;have hbx:qG w2.heap.size (λ_=>False) w2 (w2.alloc (.cells (List.toArray [Value.int .i64 (k:Int),Value.int .i64 (n:Int),Value.int .i64 (i:Int),Value.int .i64 (ch:Int),Value.slice none 0 0,Value.slice none 0 0,Value.slice none 0 0]) 41)):=qG.alloc (qG.refl _ _ _) (ay _) _;exact h _ w2.heap.size _ ⟨⟨_,Nz rfl⟩,Jc.later hbx Jc.lt id,⟨ql.made w2 _ _⟩,LX.later hbx ag id,rq.later hbx ag id,((RV.trans ((zJ.mono ag (λ_ x=>x)).below (λk hk hs=>ag)|>qG.qw)).trans (hbx.mono ag (λ_ x=>x))).below (λ_ _ x=>x),ag,aA⟩
theorem UM{k n i ch:Nat}{e:Nat×Nat}(he:qN l=.error e)(hb:xM w bb bo l)(Ah:bb<w.heap.size)(afw:∀sb w1,bb≠sb->yX w1 sb (.slice (some ⟨bb,bo,none⟩) l.length cap) 0 none->xM w1 bb bo l->bb<w1.heap.size->Calls prog 28 #[.pointer (some ⟨sb,0,none⟩)] w1 λq w'=>q=.returned (.agg (sG k n i ch (.slice none 0 0) (.slice none 0 0) (.slice none 0 0)).toArray)/\yX w' sb (.slice (some ⟨bb,bo,none⟩) l.length cap) 0 (some e)/\qG w1.heap.size (· =sb) w1 w'):
  Calls prog 12 #[(.slice (some ⟨bb,bo,none⟩) l.length cap)] w (xO l w):=by
 refine Xz hb Ah afw λT xb w3 D=>?_
 obtain⟨f,eT⟩:=D.t;have z2:=D.s.Eo.c2;have zE:((e.1:Int)==0)=false:=by have:=D.s.errs e rfl;simp;omega
 simp only[eR]at z2;rw[aiK,eT];unfold Tps
 conv in Y9 ps3=>simp only[Y9,ps3,Ej,Su,Tryz.f12,bf]
 go_wp2;exact Gx he ⟨_,Nz rfl⟩ D.s D.r D.xG
theorem aaV{k n i ch m ln:Nat}(hl:l.length<2^58)(uF:l.length<=cap)(hb:xM w bb bo l)(Ah:bb<w.heap.size)(he:Bc l=none)(EK:Hid (le l 6 1=k))(EN:Hid (le l 7 1=n))(EI:Hid (le l 8 1=i))(EC:Hid (le l 10 4=ch))(EM:Hid (le l 14 4=m))(EL:Hid (le l 18 4=ln)):
  Calls prog 12 #[(.slice (some ⟨bb,bo,none⟩) l.length cap)] w (xO l w):=by
 obtain⟨g1,g2,g3⟩:=ac7 he;have h32:32<=l.length:=by have:=NC g2;omega
 have hr:=GZ g3;rw[EK.out,EN.out,EI.out,EC.out,EM.out,EL.out]at hr
 refine Xz (k:=k) (n:=n) (i:=i) (ch:=ch) hb Ah (λsb w1 BR h3 h4 h5=>by have:=aeV sb bb bo cap BR l ag uF w1 h3 h4 h5 g1 g2;rw[g3,EK.out,EN.out,EI.out,EC.out]at this;exact this) λT xb w3 D=>?_
 obtain⟨f,eT⟩:=D.t;obtain⟨_,RX,hX3,hR3,uQ,hBB,atE,atX⟩:=D;have KN:=age (w.heap.size+1) xb bb bo cap ag ag ag l ag uF m ag ag k n i ch 0 w3 RX hX3 uQ ag;unfold Gy at KN;have e2:=RX.Eo.c2;simp only[eR]at e2;rw[aiK,eT];unfold Tps
 conv in Y9 ps3=>simp only[Y9,ps3,Ej,Su,Tryz.f12,bf]
 clear eT g1 g2 g3;cases hn:vX l m with
 |error e=>
  have hE:qN l=.error e:=by unfold qN;rw[he,EM.out,hn]
  rw[hn]at KN;simp only at KN;have HE:Hid _:=hE;clear hE hn he
  go_wp2_with(first|(go_at_call 29;refine(zn (sb:=w.heap.size+1) (bb:=bb) (bo:=bo) (cap:=cap) (l:=l) (at_:=0) _ _ 14 4 aF aF ag ag mW auw ag).mono ?_;rintro q w' ⟨rfl,sH⟩;obtain rfl:=sH.symm;rw[EM.out])|(go_at_call 29;refine(zn (sb:=w.heap.size+1) (bb:=bb) (bo:=bo) (cap:=cap) (l:=l) (at_:=0) _ _ 18 4 aF aF ag ag mW auw ag).mono ?_;rintro q w' ⟨rfl,sH⟩;obtain rfl:=sH.symm;rw[EL.out])|(go_at_call 30;refine KN.mono ?_;rintro q w4 ⟨rfl,xX,Kv⟩;have z2:=Kv.Eo.c2;have zE:((e.1:Int)==0)=false:=(by have:=Kv.errs e rfl;simp;omega);simp only[eR]at z2))
  exact Gx HE.out ⟨_,Nz rfl⟩ Kv (hR3.later xX ag ag) ((qG.qw hBB|>.trans (xX.mono ag (λ_ x=>x))).below (λk hk x=>ag))
 |ok x=>
  obtain⟨ns,zs⟩:=x;rw[hn]at KN;simp only at KN;obtain⟨gs,gz,gl,gt,_⟩:=agf hn;have hzz:∀j,zs.getD j 0<2^63:=λj=>by have:=gz j;omega
  have h40:32+m+8<=l.length:=NC gs
  have hP:∀X,(if ln=uu k zs then match tu l (decide (i<k)) ch ln ((rZ zs:Int)-((i*uu k zs:Nat):Int)) ln (32+m+8) []with| .error e=>.error e| .ok (qC,a)=>match ug (uS l a xm) (qJ (decide (l.length<=a+4)) 9 (a+4))with|some e=>.error e|none=>.ok ⟨k,n,i,ch,ns,zs,qC⟩else .error (7,18))=X->qN l=X:=λX h=>by unfold qN;rw[he,EM.out,hn];simp only;rw[EK.out,EI.out,EC.out,EL.out,EN.out];exact h
  obtain⟨L,eL⟩:∃L,uu k zs=L:=⟨_,rfl⟩;have HL:Hid (uu k zs=L):=eL;rw[eL]at hP;clear eL hn he gz gs
  go_upto_region 9 with(first|(go_at_call 29;refine(zn (sb:=w.heap.size+1) (bb:=bb) (bo:=bo) (cap:=cap) (l:=l) (at_:=0) _ _ 14 4 aF aF ag ag mW auw ag).mono ?_;rintro q w' ⟨rfl,sH⟩;obtain rfl:=sH.symm;rw[EM.out])|(go_at_call 29;refine(zn (sb:=w.heap.size+1) (bb:=bb) (bo:=bo) (cap:=cap) (l:=l) (at_:=0) _ _ 18 4 aF aF ag ag mW auw ag).mono ?_;rintro q w' ⟨rfl,sH⟩;obtain rfl:=sH.symm;rw[EL.out])|(go_at_call 30;refine KN.mono ?_;clear KN;rintro q w4 ⟨rfl,xX,vN,vS,J⟩;have z2:=J.sc.Eo.c2;simp only[eR]at z2;have x0:=J.sh.row.cell (i:=0) rfl;have x5:=J.sh.row.cell (i:=5) rfl;have Yw:=xX.size;have hR4:=hR3.later xX ag ag;have Xe:=uQ.later xX ag ag;have hH4:=Ld J.os;have aqs:Below w.heap.size w w4:=(qG.qw hBB|>.trans (xX.mono ag (λ_ x=>x))).below (λk hk x=>ag);clear hR3 uQ RX hX3 hBB e2 xX)|(go_at_call 32;refine(ND _ k aF ag ag vS zs hzz ag _ (by exact hH4)).mono ?_;rintro q w' ⟨rfl,sH⟩;obtain rfl:=sH.symm;rw[HL.out])|(go_at_call 31;refine(vg (sb:=w.heap.size+1) (at_:=32) (r:=none) _ _ _ 7 18 aF aF aB (by exact J.sc)).mono ?_;rintro q w5 ⟨rfl,QL,Y_⟩;have z1:=QL.Eo.c1;have y1:=ql.frozen QL.Eo 1))
  go_upto_region 10 with fail
  have hS6:yX (w5.setCell ⟨w.heap.size+1,1,none⟩ (.int .i64 ((32+m+8:Nat):Int))) (w.heap.size+1) (.slice (some ⟨bb,bo,none⟩) l.length cap) (32+m+8) (ug none (qJ ((ln:Int)==(L:Int)) 7 18)):=⟨QL.Eo.setAt _,QL.errs⟩;have Za:qG w4.heap.size (· =w.heap.size+1) w4 (w5.setCell ⟨w.heap.size+1,1,none⟩ (.int .i64 ((32+m+8:Nat):Int))):=Y_.setCell (p:=⟨w.heap.size+1,1,none⟩) (.inr rfl) _;rw[show((32+m+8:Nat):Int)=32+(m:Int)+8 by omega]at hS6 Za;generalize w5.setCell ⟨w.heap.size+1,1,none⟩ (.int .i64 (32+(m:Int)+8))=w6 at hS6 Za⊢;have hX6:=J.sh.later Za J.sh.row.lt ag;have hO6:=qY J.os (w':=w6) (λg hg=>Za.block g (J.os.lt g hg).2 (by have:=(J.os.lt g hg).1;omega));have hN6:=qY J.on (w':=w6) (λg hg=>Za.block g (J.on.lt g hg).2 (by have:=(J.on.lt g hg).1;omega));have hR6:=hR4.later Za ag ag;have Z5:=Xe.later Za ag ag;have aqt:Below w.heap.size w w6:=(qG.qw aqs|>.trans (Za.mono ag (λ_ x=>x))).below (λk hk x=>ag);have hs6:=Za.size;generalize hr3:ug none (qJ ((ln:Int)==(L:Int)) 7 18)=r3 at hS6;have KF:=ac8 (w.heap.size+1) xb bb bo cap ag ag ag l uF k n i ch (32+m+8) ag ag ag vN vS zs hzz ag ln ag w6 hX6 (Ld hO6) Z5 ag r3 hS6 ag hl ag ag;have HR:Hid _:=hr3;clear QL Y_ Za hR4 aqs Xe hH4 z1 z2 y1 x0 x5 hX6 hr3 J
  go_upto_region 11 with(first|(go_at_call 33;refine KF.mono ?_;clear KF;rintro q w7 ⟨rfl,vC,a,qC,r4,Q,hFr⟩))
  have hb7:=Z5.later Q.but ag ag;have hs7:=Q.but.size;have hR7:=hR6.later Q.but ag ag;have hB7:Below w.heap.size w w7:=(qG.qw aqt|>.trans (Q.but.mono aqt.size (λ_ x=>x))).below (λk hk x=>ag);unfold aiL at hFr;rw[HL.out]at hFr;cases r4 with
  |some e=>
   have hE:=hP (.error e) (by
    by_cases hq:ln=L
    .rw[ax hq];have h3:r3=none:=awU;rw[h3]at hFr;simp only at hFr;split at hFr<;>rename_i hf<;>rw[hf]
     .cases hFr;rfl
     .cases hFr.1
    .rw[au hq];have h3:r3=some (7,18):=awT;rw[h3]at hFr;cases hFr;rfl)
   have HE:Hid _:=hE;have z2:=Q.sc.Eo.c2;have z1:=Q.sc.Eo.c1;simp only[eR]at z1 z2;have ze:=Q.sc.errs e rfl;have z2':∀nq,(w7.drewN nq).cell? ⟨w.heap.size+1,2,none⟩=some (.int .i64 (e.1:Int)):=λnq=>z2
   clear hE hFr hP
   go_upto_region 12 with(first|(go_at_call 34;refine(ac9 (w.heap.size+1) _ e.1 ze _ (by exact z2) aB).mono ?_;rintro q w' ⟨rfl,sH⟩;obtain rfl:=sH.symm))
   go_big_quiet (first|(go_at_call 31;exact(XA _ _ _ _ e.1 ze _ (z2' _)).mono (λ_ _ h=>⟨h.1,_,h.2⟩)))
   go_wp2;exact Gx (wz:=w7.drewN nq) HE.out ⟨_,Nz rfl⟩ (Q.sc.heap rfl) hR7 (JC hB7 nq)
  |none=>
   have hq:ln=L:=by apply iw;intro hq;have h3:r3=some (7,18):=awT;rw[h3]at hFr;cases hFr
   have h3:r3=none:=awU;rw[h3]at hFr;simp only at hFr
   obtain⟨V6,hal⟩:(∀X,(match ug (uS l a xm) (qJ (decide (l.length<=a+4)) 9 (a+4))with|some e=>.error e|none=>.ok ⟨k,n,i,ch,ns,zs,qC⟩)=X->qN l=X)/\a<=l.length:=by
    split at hFr<;>rename_i hf
    .cases hFr
    .obtain⟨_,rfl,rfl⟩:=hFr;refine⟨λX h=>hP X ?_,UN l _ _ _ _ _ _ _ ag hf⟩;rw[ax hq,hf];exact h
   clear hFr hP hq h3
   go_upto_region 12 with(first|(go_at_call 34;refine(aeW (sb:=w.heap.size+1) (bb:=bb) (bo:=bo) (cap:=cap) (l:=l) (at_:=a) (r:=none) xm aB ag ag ag (by exact Q.sc) (by exact hb7) ag).mono ?_;rintro q w8 ⟨rfl,hS8,hB8⟩))
   have hR8:=hR7.later hB8 ag ag;have hs8:=hB8.size;have aoB:Below w.heap.size w w8:=(qG.qw hB7|>.trans (hB8.mono hB7.size (λ_ x=>x))).below (λk hk x=>ag);have z1:=hS8.Eo.c1;simp only[ug]at hS8;cases hx:uS l a xm with
   |some e=>
    rw[hx]at hS8;have HE:Hid _:=V6 (.error e) (by rw[hx];rfl);have z2:=hS8.Eo.c2;simp only[eR]at z2;have ze:=hS8.errs e rfl;have z2':∀nq,(w8.drewN nq).cell? ⟨w.heap.size+1,2,none⟩=some (.int .i64 (e.1:Int)):=λnq=>z2
    clear V6
    go_big_quiet (first|(go_at_call 31;exact(XA _ _ _ _ e.1 ze _ (z2' _)).mono (λ_ _ h=>⟨h.1,_,h.2⟩)))
    go_wp2;exact Gx (wz:=w8.drewN nq) HE.out ⟨_,Nz rfl⟩ (hS8.heap rfl) hR8 (JC aoB nq)
   |none=>
    rw[hx]at hS8;by_cases hm:l.length<=a+4
    .have HE:Hid _:=V6 (.ok ⟨k,n,i,ch,ns,zs,qC⟩) (by rw[hx,gV hm];rfl);have hm2:(l.length:Int)<=(a:Int)+4:=ag;clear V6
     go_big_quiet (first|(go_at_call 31;exact(Le _ _ _ _).mono (λ_ _ h=>⟨h.1,_,h.2⟩)))
     go_wp2;have ol:∀{t n:Nat}{v:ai}{xs:aK},w6.ownsRow w3.heap.size t 1 v n xs->(w8.drewN nq).ownsRow w3.heap.size t 1 v n xs:=λow=>qY (qY (qY ow (w':=w7) (λg hg=>Q.but.block g (ow.lt g hg).2 aw9)) (w':=w8) (λg hg=>hB8.block g (by have:=(ow.lt g hg).2;omega) aw9)) (λ_ _=>rfl)
     have hC8:=qY Q.oc (w':=w8) (λg hg=>hB8.block g (Q.oc.lt g hg).2 (by have:=(Q.oc.lt g hg).1;omega));exact agd (wz:=w8.drewN nq) HE.out ⟨_,Nz rfl⟩ (hS8.heap rfl) hR8 (JC aoB nq) ⟨(Q.sh.later hB8 (by have:=Q.sh.row.lt;omega) ag).row⟩ (ol hN6) (ol hO6) (Hz (qY hC8 (w':=w8.drewN nq) (λ_ _=>rfl)) ag) ag
    .have HE:Hid _:=V6 (.error (9,a+4)) (by rw[hx,dY hm];rfl);have hm2:¬((l.length:Int)<=(a:Int)+4):=ag;have hm3:decide ((l.length:Int)<=(a:Int)+4)=false:=dY hm2;have RU:IntKind.i64.wrap ((a:Int)+4)=(a:Int)+4:=dH _ ag;clear V6;refine uA 14 mixed ak ?_;simp only[jc,gG,jm,ik]
     repeat still_step
     refine wpStill_nil ?_;have arU:yX w8.drew (w.heap.size+1) (.slice (some ⟨bb,bo,none⟩) l.length cap) a none:=hS8.heap rfl
     go_wp2_with(first|(go_at_call 31;refine(vg (sb:=w.heap.size+1) (at_:=a) (r:=none) _ _ _ 9 (a+4) aF aA aB (by exact arU)).mono ?_;rintro q w9 ⟨rfl,arV,hB9⟩;have hS9:=arV.ok (ok':=false) aF))
     exact Gx HE.out ⟨_,Nz rfl⟩ hS9 ((show ql w8.drew w.heap.size (sG 0 0 0 0 (.slice none 0 0) (.slice none 0 0) (.slice none 0 0)) 41 from hR8).later hB9 (by show w.heap.size<w8.heap.size;omega) ag) ((qG.qw aoB.drew|>.trans (hB9.mono (by show w.heap.size<=w8.heap.size;omega) (λ_ x=>x))).below (λk hk x=>ag))
end
theorem ahz(bb bo cap:Nat)(l:aj)(hl:l.length<2^58)(uF:l.length<=cap)(w:ah)(hb:xM w bb bo l)(Ah:bb<w.heap.size):
  Calls prog 12 #[(.slice (some ⟨bb,bo,none⟩) l.length cap)] w (xO l w):=by
 cases he:Bc l with
 |none=>exact aaV hl uF hb Ah he rfl rfl rfl rfl rfl rfl
 |some e=>
  have hE:qN l=.error e:=by unfold qN;rw[he]
  unfold Bc at he;cases Z7:ug (uS l 0 vJ) (sS l 0 24)with
  |some x=>
   rw[Z7]at he;cases he;exact UM hE hb Ah λsb w1 BR h1 h2 h3=>aiM sb bb bo cap BR l ag uF w1 h1 h2 h3 e Z7
  |none=>
   rw[Z7]at he
   have h1:uS l 0 vJ=none:=by
    cases hf:uS l 0 vJ with
    |none=>rfl
    |some x=>rw[hf]at Z7;cases Z7
   have h2:sS l 0 24=none:=by rw[h1]at Z7;exact Z7
   refine UM (k:=le l 6 1) (n:=le l 7 1) (i:=le l 8 1) (ch:=le l 10 4) hE hb Ah λsb w1 BR h3 h4 h5=>?_
   have:=aeV sb bb bo cap BR l ag uF w1 h3 h4 h5 h1 h2;simp only at he;rw[he]at this;exact this
end Go.Proofs.Y
namespace Go.Proofs.Y
open Go.Proofs.Tryz
open Go.RowKit Go.Deep Go.Hp
def Sv(bs:Nat->aj)(j:Nat):aC:=(List.range j).map λi=>Ua (bs i)
theorem aaW(bs:Nat->aj)(j:Nat):(Sv bs j).length=j:=by simp[Sv]
theorem agh(bs:Nat->aj)(j:Nat):uH (Sv bs (j+1))=uH (Sv bs j)++[.int .i64 ((Ua (bs j):Nat):Int)]:=by simp[Sv,uH,dP]
structure SlC(w:ah)(bi:aW)(n:Nat)(bs:Nat->aj)(vi:Nat->ai):Prop where
 sl:SlB w bi n bs vi
 at_:∀i,i<n->∃g c,vi i=.slice (some ⟨g,0,none⟩) (bs i).length c/\(bs i).length<=c/\g<w.heap.size/\(bs i).length<=1048576
theorem aiN{w w':ah}{bi:aW}{n:Nat}{bs:Nat->aj}{vi:Nat->ai}(h:SlC w bi n bs vi)(hb:Below w.heap.size w w'){i:Nat}(hi:i<n):Calls prog 12 #[vi i] w' (xO (bs i) w'):=by obtain⟨g,c,e,h1,h2,h3⟩:=h.at_ i hi;have hl:=(h.sl.LV i hi).1.below hb;rw[e]at hl⊢;refine ahz g 0 c (bs i) ag h1 w' (λj hj=>?_) (bH h2 hb.size);obtain⟨b',o',e',hc⟩:=hl.get (wF hj);cases e';exact hc
theorem aqu{M:Nat}{sh:Nat->vZ}(hG:∀i,i<M->ShG (sh i))(hE:ac_ M sh 0):UO M sh/\0<M/\(sh 0).k<=M/\(∀i,i<M->(sh i).qC.length=rO (sh 0).k (sh 0).sizes.sum)/\(∀i,i<M->(sh i).i<(sh 0).n)/\∀i j,i<M->j<M->i≠j->(sh i).i≠(sh j).i:=by
 rcases hE with⟨h,_⟩|⟨h,_⟩|⟨h,_⟩|⟨_,hA,hD,h0,hk⟩
 .cases h
 .cases h
 .cases h
 refine⟨hA,h0,hk,λi hi=>?_,λi hi=>?_,λi j hi hj hne e=>?_⟩
 .obtain⟨e1,_,_,_,e5⟩:=H7 hA hi;rw[(hG i hi).qC,e1,e5]
 .have:=(hG i hi).k1.2.2.2;rw[(H7 hA hi).2.1]at this;exact this
 .rcases bK i j with h|h
  .exact hD ⟨j,i,h,hj,e.symm⟩
  .exact hD ⟨i,j,ag,hi,e⟩
def ada(sh:Nat->vZ)(vC:Nat->ai)(i:Nat):aK:=[.int .i64 (((sh i).i:Nat):Int),vC i]
theorem aoC{w:ah}{B M L g c:Nat}{sh:Nat->vZ}{vC:Nat->ai}(ho:w.ownsRow B 55 2 (.slice (some ⟨g,0,none⟩) M c) M (IL (ada sh vC) M))(h0:0<M)(hl:∀i,i<M->∃a p,vC i=.slice a L p):CO w g 0 M (qOf L sh vC):=by
 have hr:∀i,i<M->w.rangeAt g (i*2) (ada sh vC i):=λi hi=>xK (c:=λe=>ada sh vC e.l) (f:=λi=>⟨[],none,i,0⟩) (λ_=>rfl) ho hi
 refine⟨rY (hr 0 h0 0 _ rfl),λi hi=>by rw[bJ];exact hr i hi 0 _ rfl,λi hi=>?_⟩;obtain⟨a,p,e⟩:=hl i hi;rw[bJ,hr i hi 1 (vC i) rfl];simp only[qOf,e,slB,slC]
structure DJ(w:ah)(bs:Nat->aj)(j:Nat)(vN vS vC:Nat->ai)(vl vt:ai)(wr:ah):Prop where
 xG:Below w.heap.size w wr
 told:wr.ownsRow w.heap.size 3 1 vt j (uH (Sv bs j))
 tk:Tk w.heap.size (CS bs j) vN vS vC vl wr
 ap:∀i,i<(CS bs j).length->∀g,(vS i).ownBlock=some g->vt.ownBlock≠some g
theorem DJ.tell{w:ah}{bs:Nat->aj}{j:Nat}{vN vS vC:Nat->ai}{vl vt v4:ai}{wr w3 w4:ah}{o:Obj}(h:DJ w bs j vN vS vC vl vt wr)(hb:Below wr.heap.size wr w3)(hg:(w3.alloc o).grownBy w4 vt.ownBlock)(ho:w4.ownsRow w.heap.size 3 1 v4 (j+1) (uH (Sv bs j)++[.int .i64 ((Ua (bs j):Nat):Int)]))(hk:v4.ownBlock=vt.ownBlock\/v4.ownBlock=some (w3.alloc o).heap.size):
  Below w.heap.size w w4/\w4.ownsRow w.heap.size 3 1 v4 (j+1) (uH (Sv bs (j+1)))/\Tk w.heap.size (CS bs j) vN vS vC vl w4/\(∀i,i<(CS bs j).length->∀g,(vS i).ownBlock=some g->v4.ownBlock≠some g)/\(∀b,wr.heap.size<=b->b<w3.heap.size->w4.heap[b]?=w3.heap[b]?)/\∀g,wr.heap.size<=g->g<w3.heap.size->v4.ownBlock≠some g:=by
 have s1:=h.xG.size;have s2:=hb.size;have s3:(w3.alloc o).heap.size=w3.heap.size+1:=aA
 have old:∀b,b<wr.heap.size->vt.ownBlock≠some b->w4.heap[b]?=wr.heap[b]?:=λb h1 h2=>by rw[hg.block b ag (λe=>h2 e.symm),dI _ _ b ag,hb.block b h1]
 have kd:∀{t sz n:Nat}{v:ai}{xs:aK},wr.ownsRow w.heap.size t sz v n xs->t≠3->w4.ownsRow w.heap.size t sz v n xs:=λ{t sz n v xs} ow ht=>qH ow λg um=>old g (ow.lt g um).2 λe=>x8 ow h.told ht um e;have qB:∀g,vt.ownBlock=some g->g<wr.heap.size:=λg e=>(h.told.lt g e).2
 refine⟨((h.xG.trans (hb.mono s1)).alloc ag o).grown hg ag λk e=>(h.told.lt k e).1,by rw[agh];exact ho,⟨kd h.tk.own aB,λi hi=>kd (h.tk.nm i hi) aB,λi hi=>qH (h.tk.sz i hi) λg um=>old g ((h.tk.sz i hi).lt g um).2 (h.ap i hi g um),λi hi=>kd (h.tk.cl i hi) aB⟩,λi hi g e1 e2=>?_,λb h1 h2=>?_,λg h1 h2 e=>?_⟩
 .have h2:=((h.tk.sz i hi).lt g e1).2;rcases hk with hk|hk
  .exact h.ap i hi g e1 (hk.symm.trans e2)
  .rw[hk]at e2;cases e2;omega
 .rw[hg.block b ag (λe=>by have:=qB b e.symm;omega),dI _ _ b h2]
 .rcases hk with hk|hk
  .have:=qB g (hk.symm.trans e);omega
  .rw[hk]at e;cases e;omega
theorem alQ(x:Int)(a:aW)(n c:Nat):∀u∈[Value.int .i64 x,.slice a n c],u.oneCell'=true:=by exact axC
def aqv(x L:Nat)(l:aj)(sh:Nat->vZ):Prop:=∀t,t<x->(sh t).qC=He (sh 0).k L l (sh t).i
def alR(M:Nat)(sh:Nat->vZ)(vb:ai)(e:Nat)(w:ah):Prop:=
 (e≠0/\ac_ M sh e/\vb=.slice none 0 0)\/
 (ac_ M sh 0/\∃l,(∀l',D8 M sh l'->l=l')/\((e=0/\D8 M sh l/\∃B f,Wn B (sh 0).names (sh 0).sizes l (sh 0).names.length f vb w)\/(e=13/\¬D8 M sh l/\vb=.slice none 0 0)))
theorem adb(n cap:Nat)(bi:aW)(bs:Nat->aj)(vi:Nat->ai)(w:ah)(hS:SlC w bi n bs vi)(hn:n<=1048576):
  Calls prog 6 #[.slice bi n cap] w λr w'=>Below w.heap.size w w'/\∃vb vt e,r=.returned (.tuple #[vb,vt,.int .i64 ((e:Nat):Int)])/\w'.ownsRow w.heap.size 3 1 vt n (uH (Sv bs n))/\alR (CS bs n).length (xR (CS bs n)) vb e w':=by
 obtain⟨i0,zo,xY,wW,vV⟩:=cO Tryz.aiO;obtain⟨i1,F_,hy0,TR,hy2⟩:=cO Tryz.Lc;have D0:DJ w bs 0 (λ_=>undef) (λ_=>undef) (λ_=>undef) (.slice none 0 0) (.slice none 0 0) w:=⟨aO _ _,bY _ _ _ _,⟨bY _ _ _ _,λi hi=>absurd hi lG,λi hi=>absurd hi lG,λi hi=>absurd hi lG⟩,λi hi=>absurd hi lG⟩;go_enter func6,ntmps6;go_wp2;generalize hh:w.heap.size=h at*
 go_loopw [5,6,7] (λvl vt vj wr=>∃(j:Nat)(vN vS vC:Nat->ai),j<=n/\vj=.int .i64 (j:Int)/\DJ w bs j vN vS vC vl vt wr) (λ_ _ vj _=>n-(intOf vj).toNat)
 case atStart=>exact⟨0,_,_,_,ag,rfl,D0⟩
 case round=>
  clear D0;obtain⟨j,vN,vS,vC,hj,rfl,hI⟩:=hrel;have hs:h<=wr.heap.size:=by have:=hI.xG.size;omega
  by_cases qB:j<n
  .have xZ:(j:Int)<(n:Int):=ag;obtain⟨b,o,rfl,hcell⟩:=hS.sl.cells ag;have c1:=qK hI.xG (ay _) (hcell j qB);have kP:=aiN hS hI.xG qB;unfold xO at kP;obtain⟨bt,ct,rfl⟩:=(qP.owned hI.told).len;rw[yE,aaW]at*;cases Bh:qN (bs j)with
   |error e=>
    rw[Bh]at kP;simp only at kP;have hes:Ua (bs j)=e.1:=qf;have hne:=aaT Bh;have asU:((e.1:Int)==0)=false:=aJ;have TP:=ahL Bh;have zZ:=λ(w3:ah)(hb:Below wr.heap.size wr w3)(o:Obj)(v4:ai)(w4:ah)=>hI.tell (v4:=v4) (w3:=w3) (w4:=w4) (o:=o) hb;rw[hes]at zZ;clear hcell Bh hes hne;unfold Bq sG at kP;generalize e.1=e1 at*;generalize e.2=e2 at*
    go_upto_region 7 with(first|(go_at_call 12;(with_reducible refine kP.mono ?_);rintro q w2 ⟨rq,rfl⟩))
    have uQ:Below wr.heap.size wr (w2.alloc (.cells #[.int .i64 0,.int .i64 0,.int .i64 0,.int .i64 0,.slice none 0 0,.slice none 0 0,.slice none 0 0] 41)):=rq.alloc rq.size _;generalize w2.alloc (.cells #[.int .i64 0,.int .i64 0,.int .i64 0,.int .i64 0,.slice none 0 0,.slice none 0 0,.slice none 0 0] 41)=w3 at uQ⊢;have zM:=uQ.size;have t3:=qH hI.told λg hg=>uQ.block g (hI.told.lt g hg).2
    replace zZ:=zZ w3 uQ (.cells #[.int .i64 (e1:Int)] 3);rw[hh]at t3 zZ;clear kP c1 rq;generalize w2.heap.size=p9
    go_wp2_with(at_builtin;refine wpList_append_own_at _ rfl _ _ 34 rfl h 3 i0 (.int .i64 0) 1 8 underlying34 zo xY wW vV rfl aB _ _ _ rfl (t3.alloc _) ⟨w3.heap.size,0,none⟩ 1 1 [.int .i64 (e1:Int)] rfl rfl (uj _ _ _) (OQ _) bT ag aJ ?_;intro v4 w4 ho4 qA _ Kt;have hz4:=zZ _ _ qA ho4 Kt)
    go_roundw
    case rel=>exact⟨j+1,vN,vS,vC,ag,aV,by rw[hh];exact hz4.1,by rw[hh];exact hz4.2.1,by rw[hh,TP];exact hz4.2.2.1,by rw[TP];exact hz4.2.2.2.1⟩
    case measure=>simp[intOf];omega
   |ok s=>
    rw[Bh]at kP;simp only at kP;have hes:Ua (bs j)=0:=qf;have TP:=ahK Bh;have TQ:=Tt bs j;have zZ:=λ(w3:ah)(hb:Below wr.heap.size wr w3)(o:Obj)(v4:ai)(w4:ah)=>hI.tell (v4:=v4) (w3:=w3) (w4:=w4) (o:=o) hb;rw[hes]at zZ;clear hcell Bh hes;unfold sG at kP
    go_upto_region 7 with(first|(go_at_call 12;(with_reducible refine kP.mono ?_);rintro q w2 ⟨rq,xN,xS,xC,rfl,oN,oS,oC⟩;obtain⟨bN,cN,rfl⟩:=(qP.owned oN).len;obtain⟨bS,cS,rfl⟩:=(qP.owned oS).len;obtain⟨bC,cC,rfl⟩:=(qP.owned oC).len))
    generalize(zC s.names).length=lN at*;generalize(uH s.sizes).length=lS at*;generalize(rP s.qC).length=lC at*;have hR:=ql.made w2 [.int .i64 (s.k:Int),.int .i64 (s.n:Int),.int .i64 (s.i:Int),.int .i64 (s.c:Int),.slice bN lN cN,.slice bS lS cS,.slice bC lC cC] 41;obtain⟨o3,eo⟩:∃o,o=Obj.cells #[.int .i64 (s.k:Int),.int .i64 (s.n:Int),.int .i64 (s.i:Int),.int .i64 (s.c:Int),.slice bN lN cN,.slice bS lS cS,.slice bC lC cC] 41:=⟨_,rfl⟩;have uQ:=rq.alloc rq.size o3;have oN3:=oN.alloc o3;have oS3:=oS.alloc o3;have oC3:=oC.alloc o3;rw[<-eo]at hR⊢;have hp9:wr.heap.size<=w2.heap.size:=rq.size;generalize w2.alloc o3=w3 at uQ hR oN3 oS3 oC3⊢;have zM:=uQ.size;have t3:=qH hI.told λg hg=>uQ.block g (hI.told.lt g hg).2
    replace zZ:=zZ w3 uQ (.cells #[.int .i64 0] 3);rw[hh]at t3 zZ;clear kP c1 rq oN oS oC;generalize w2.heap.size=p9 at*
    go_upto_region 8 with(at_builtin;refine wpList_append_own_at _ rfl _ _ 34 rfl h 3 i0 (.int .i64 0) 1 8 underlying34 zo xY wW vV rfl aB _ _ _ rfl (t3.alloc _) ⟨w3.heap.size,0,none⟩ 1 1 [.int .i64 0] rfl rfl (uj _ _ _) (OQ _) bT ag aJ ?_;intro v4 w4 ho4 qA _ Kt;have hz4:=zZ _ _ qA ho4 Kt)
    obtain⟨z1,z2,z3,z4,z5,z6⟩:=hz4;clear zZ qA ho4 Kt t3;have hp3:p9<w3.heap.size:=hR.lt;replace hR:ql w4 p9 [.int .i64 (s.k:Int),.int .i64 (s.n:Int),.int .i64 (s.i:Int),.int .i64 (s.c:Int),.slice bN lN cN,.slice bS lS cS,.slice bC lC cC] 41:=(z5 p9 hp9 hp3).trans hR;have kp:∀{t n:Nat}{v:ai}{xs:aK},w3.ownsRow wr.heap.size t 1 v n xs->w4.ownsRow h t 1 v n xs:=λow=>(qH ow λg hg=>z5 g (ow.lt g hg).1 (ow.lt g hg).2).mono hs
    have z7:∀g,(Value.slice bS lS cS).ownBlock=some g->v4.ownBlock≠some g:=λg hg=>z6 g (oS3.lt g hg).1 (oS3.lt g hg).2
    replace oN3:=kp oN3;replace oS3:=kp oS3;replace oC3:=kp oC3;have Yw:h<=w4.heap.size:=hh▸z1.size;clear kp z5 z6 uQ zM hp9 hp3;have c0:=hR.cell (i:=0) rfl;have c1:=hR.cell (i:=1) rfl;have c2:=hR.cell (i:=2) rfl;have c3:=hR.cell (i:=3) rfl;have c4:=hR.cell (i:=4) rfl;have c5:=hR.cell (i:=5) rfl;have c6:=hR.cell (i:=6) rfl;obtain⟨bt,ct,rfl⟩:∃bt ct,u5=.slice bt (CS bs j).length ct:=yS z3.own
    have sy:∀u∈([.int .i64 (s.k:Int),.int .i64 (s.n:Int),.int .i64 (s.i:Int),.int .i64 (s.c:Int),.slice bN lN cN,.slice bS lS cS,.slice bC lC cC]:aK),u.oneCell'=true:=by exact ayD
    clear hR
    go_wp2_with(at_builtin;refine di _ rfl _ _ 39 rfl h 41 i1 (.agg #[.int .i64 0,.int .i64 0,.int .i64 0,.int .i64 0,.slice none 0 0,.slice none 0 0,.slice none 0 0]) 7 104 underlying39 F_ hy0 TR hy2 rfl aB _ _ _ rfl (z3.own.alloc _) ⟨w4.heap.size,0,none⟩ 1 1 [.int .i64 (s.k:Int),.int .i64 (s.n:Int),.int .i64 (s.i:Int),.int .i64 (s.c:Int),.slice bN lN cN,.slice bS lS cS,.slice bC lC cC] rfl rfl (Hu _ _ _) sy bT ag aJ ?_;intro v5 w5 Ae qA _)
    replace qA:(w4.alloc (.cells #[.int .i64 (s.k:Int),.int .i64 (s.n:Int),.int .i64 (s.i:Int),.int .i64 (s.c:Int),.slice bN lN cN,.slice bS lS cS,.slice bC lC cC] 41)).grownBy w5 (Value.slice bt (CS bs j).length ct).ownBlock:=qA;have b5:=tJ z3.own Yw ((aO w4.heap.size w4).alloc (ay _) _) qA (ay _);have t5:=xB z3.own z2 aB ((aO w4.heap.size w4).alloc (ay _) _) qA;have k5:=(z3.Ag (w':=w4.alloc (.cells #[.int .i64 (s.k:Int),.int .i64 (s.n:Int),.int .i64 (s.i:Int),.int .i64 (s.c:Int),.slice bN lN cN,.slice bS lS cS,.slice bC lC cC] 41)) (λb _ rq=>dI _ _ b rq)).more (s:=s) (oN3.alloc _) (oS3.alloc _) (oC3.alloc _) qA Ae;rw[<-TP]at k5
    go_roundw
    case rel=>exact⟨j+1,_,_,_,ag,aV,by rw[hh];exact z1.trans b5,by rw[hh];exact t5,by rw[hh];exact k5,λi hi g e=>by
     split at e
     .exact z7 g e
     .rw[TP,bM,List.length_singleton]at hi;exact z4 i ag g e⟩
    case measure=>simp[intOf];omega
  .obtain rfl:j=n:=ag;have E5:¬((j:Int)<(j:Int)):=ag;obtain⟨bo,cp,rfl,hSd⟩:=hI.tk.sds (Jj bs j);have TQ:=Tt bs j;have hG:∀i,i<(CS bs j).length->ShG (xR (CS bs j) i):=λi hi=>Jj bs j _ (by simp[xR,bQ hi])
   have A_:=hI.xG;have afx:=hI.told;clear hI hS qB;generalize hM:(CS bs j).length=M at hSd TQ hG⊢;have HM:Hid ((CS bs j).length=M):=hM;generalize Z8:xR (CS bs j)=sh at hSd hG⊢;have HS:Hid (xR (CS bs j)=sh):=Z8;clear hM Z8;have kT:=Zb M cp bo sh vN vS vC wr ag hSd (λi hi=>(hG i hi).ln)
   go_upto_region 11 with(first|(go_at_call 13;(with_reducible refine kT.mono ?_);rintro r w2 ⟨rq,e,rfl,hE⟩))
   rw[hh]at A_ afx;have aeX:=A_.trans (rq.mono hs);have Zc:=qH afx λg hg=>rq.block g (afx.lt g hg).2
   have agi:=hSd.below rq (ay _);clear kT hSd;rcases gy e with he|he
   .subst he;obtain⟨hA,h0M,hkM,LP,VX,hne⟩:=aqu hG hE;obtain⟨i2,IG,zh,D5,N8⟩:=cO Tryz.aiP;have Gn:h<=w2.heap.size:=hh▸aeX.size;have p0:w2.ownsRow w2.heap.size 55 2 (.slice none 0 0) 0 (IL (ada sh vC) 0):=bY _ _ _ _;obtain⟨b,o,rfl,Jf,hcell⟩:=agi.cells h0M;clear rq A_ afx hs;go_wp2;generalize h2e:w2.heap.size=h2 at*
    go_loopw [12,13] (λvc vi wq=>∃i:Nat,i<=M/\vi=.int .i64 (i:Int)/\wq.ownsRow h2 55 2 vc i (IL (ada sh vC) i)/\Below h2 w2 wq) (λ_ vi _=>M-(intOf vi).toNat)
    case atStart=>exact⟨0,ag,rfl,p0,aO _ _⟩
    case round=>
     clear p0;obtain⟨i,hi,rfl,hc,hb⟩:=hrel;have hsq:h2<=wr.heap.size:=h2e▸hb.size;by_cases qB:i<M
     .have xZ:(i:Int)<(M:Int):=ag;have rj:=hcell i qB;unfold Me at rj;obtain⟨-,-,p2,-,-,-,p6⟩:=Eg rj;have Nh:IL (ada sh vC) (i+1)=IL (ada sh vC) i++[.int .i64 (((sh i).i:Nat):Int),vC i]:=G6 _ _;obtain⟨pc,cc,ec⟩:=(agi.cl i qB).len;replace p2:=qK hb ag p2;replace p6:=qK hb ag p6;rw[ec]at p6 Nh;clear rj ec;generalize(rP (sh i).qC).length=lc at*;generalize(sh i).i=ix at*;have HN:Hid _:=Nh;clear Nh
      go_wp2_with fail
      go_region_law ((refine AB rfl _ _ 53 rfl h2 55 i2 (.agg #[.int .i64 0,.slice none 0 0]) 2 32 underlying53 IG zh D5 N8 rfl aB _ _ _ rfl ((hc.alloc _).drew) ⟨wr.heap.size,0,none⟩ 1 1 [.int .i64 (ix:Int),.slice pc lc cc] rfl rfl (cell_two_new _ _ _ _) (alQ _ _ _ _) bT ag aJ ?_;intro v3 w3 hc3 qA _;have uQ:=hb.trans (tJ hc hsq (((aO wr.heap.size wr).alloc (ay _) _).drew) qA (ay _));clear qA))
      all_goals
       go_wp2
       go_roundw
       case rel=>exact⟨i+1,ag,aV,by rw[HN.out];exact hc3,uQ⟩
       case measure=>simp[intOf];omega
     .obtain rfl:i=M:=ag;have alP:¬((i:Int)<(i:Int)):=ag;obtain⟨gc,cc,rfl,-,hgc⟩:=hc.form h0M;have hG0:=hG 0 h0M;obtain⟨k1,k2,k3,-⟩:=hG0.k1;have htt:=hG0.Nb;have hbr:Below w2.heap.size w2 wr:=h2e▸hb
      have hCO:=aoC (L:=rO (sh 0).k (sh 0).sizes.sum) hc h0M λt ht=>by obtain⟨a,p,e⟩:=(agi.cl t ht).len;rw[ru,LP t ht]at e;exact⟨a,p,e⟩
      have hSr:=agi.below hbr (ay _);have hDO:=ano (bc:=gc) hkM LP hgc λt ht=>hSr.cl t ht
      obtain⟨xs,hI,alS,huq⟩:=aiQ (L:=rO (sh 0).k (sh 0).sizes.sum) k1 ag hkM rfl rfl (λt ht=>by have:=VX t ag;omega) (λs t hs ht=>hne s t ag ag);have hLb:rO (sh 0).k (sh 0).sizes.sum<=65536:=by have:=G_ k1 (sh 0).sizes.sum;omega
      have bd1:Below wr.heap.size wr wr.drew:=(aO _ _).drew;have kR:=aaX (sh 0).k i gc 0 cc _ _ _ _ xs wr.drew k1 ag hkM ag (by show rO _ _<=_;omega) (λt ht=>by have:=VX t ag;show(sh t).i<128;omega) (hCO.below bd1 (ay _)) (hDO.below bd1 (ay _)) hI (λm hm t ht=>alS m hm t ht);have Je:=hG0.ln;obtain⟨bn,cn,en⟩:=(hSr.nm 0 h0M).1.len;obtain⟨bz,cz,ez⟩:=(hSr.sz 0 h0M).1.len;obtain⟨bq,cq,eq⟩:=(hSr.cl 0 h0M).len;obtain⟨b',o',e',_,hcr⟩:=hSr.cells h0M;cases e';have r0:=hcr 0 h0M;unfold Me at r0;obtain⟨x0,x1,x2,x3,x4,x5,x6⟩:=Eg r0;simp only[fO,fF]at x0 x1 x2 x3 x4 x5 x6;rw[en]at x4;rw[ez]at x5;rw[eq]at x6;have Oc:(qM (lsB (rO (sh 0).k (sh 0).sizes.sum) xs) (sh 0).k).length=(sh 0).k*rO (sh 0).k (sh 0).sizes.sum:=XC _ λ_ _=>aeY _ _ _
      have hjs:=Y7 k1 (sh 0).sizes.sum;have hjb:(sh 0).k*rO (sh 0).k (sh 0).sizes.sum<=128*65536:=iI ag hLb
      have kB:∀(w3:ah)(go:Nat)(ov:Nat->ai),Below wr.heap.size wr w3->w3.rowIs go 24 (sh 0).k ov->(∀j,j<(sh 0).k->w3.ownsRow wr.heap.size 5 1 (ov j) (rO (sh 0).k (sh 0).sizes.sum) (IQ (rO (sh 0).k (sh 0).sizes.sum) (xs j)))->Calls prog 14 #[.agg #[.int .i64 ((sh 0).k:Int),.int .i64 ((sh 0).n:Int),.int .i64 ((sh 0).i:Int),.int .i64 ((sh 0).c:Int),.slice bn (uU (sh 0).names).length cn,.slice bz (uH (sh 0).sizes).length cz,.slice bq (rP (sh 0).qC).length cq],.slice (some ⟨go,0,none⟩) (sh 0).k (sh 0).k] w3 λr w'=>Below w3.heap.size w3 w'/\∃vo f,r=.returned vo/\Wn w3.heap.size (sh 0).names (sh 0).sizes (qM (lsB (rO (sh 0).k (sh 0).sizes.sum) xs) (sh 0).k) (sh 0).names.length f vo w':=λw3 go ov uQ hr ho=>by have:=agb (sh 0) (vN 0) (vS 0) (vC 0) (sh 0).k go wr.heap.size ov (lsB (rO (sh 0).k (sh 0).sizes.sum) xs) w3 ((hSr.nm 0 h0M).1.below uQ) ((hSr.sz 0 h0M).1.below uQ) Je (hSr.nm 0 h0M).2 (λj hj=>hr.cell hj) (λj hj=>by rw[aeY,<-alT];exact ho j hj) ag ag ag;rw[en,ez,eq]at this;exact this
      clear hcr r0 hcell hCO hDO hI alS
      go_wp2_with fail
      go_region_held3 (λw'=>w'.cell? ⟨b,o,none⟩=some (.int .i64 ((sh 0).k:Int))/\w'.cell? ⟨b,o+1,none⟩=some (.int .i64 ((sh 0).n:Int))/\w'.cell? ⟨b,o+2,none⟩=some (.int .i64 ((sh 0).i:Int))/\w'.cell? ⟨b,o+3,none⟩=some (.int .i64 ((sh 0).c:Int))/\w'.cell? ⟨b,o+4,none⟩=some (.slice bn (uU (sh 0).names).length cn)/\w'.cell? ⟨b,o+5,none⟩=some (.slice bz (uH (sh 0).sizes).length cz)/\w'.cell? ⟨b,o+6,none⟩=some (.slice bq (rP (sh 0).qC).length cq)) (go_keep)
       ((first
         |(go_at_call 15;(with_reducible refine kR.mono ?_);rintro r w3 ⟨go,ov,rfl,I9,hov,aaY⟩;have uQ:=bd1.trans aaY;clear aaY;replace hov:∀j,j<(sh 0).k->w3.ownsRow wr.heap.size 5 1 (ov j) (rO (sh 0).k (sh 0).sizes.sum) (IQ (rO (sh 0).k (sh 0).sizes.sum) (xs j)):=hov;have d0:=qK uQ (ay _) x0;have d1:=qK uQ (ay _) x1;have d2:=qK uQ (ay _) x2;have d3:=qK uQ (ay _) x3;have d4:=qK uQ (ay _) x4;have d5:=qK uQ (ay _) x5;have d6:=qK uQ (ay _) x6)
         |(go_at_call 14;(with_reducible refine(kB _ _ _ uQ I9 hov).mono ?_);rintro r w4 ⟨Xe,vo,f,rfl,hBl⟩;have e0:=qK Xe (ay _) d0;have e1:=qK Xe (ay _) d1;have e2:=qK Xe (ay _) d2;have e3:=qK Xe (ay _) d3;have e4:=qK Xe (ay _) d4;have e5:=qK Xe (ay _) d5;have e6:=qK Xe (ay _) d6)))
      have Xg:Below wr.heap.size wr w4:=uQ.trans (Xe.mono uQ.size);have HLn:Hid ((sh 0).names.length=(sh 0).sizes.length):=Je;rw[<-Q4]at huq;clear Je kB kR I9 hov d0 d1 d2 d3 d4 d5 d6 e2 e4 e5 e6 x0 x1 x2 x3 x4 x5 x6 Xe uQ hjb;generalize qM (lsB (rO (sh 0).k (sh 0).sizes.sum) xs) (sh 0).k=l at*;have hNO:Dk (sh 0).names:=hG0.listed.names;obtain⟨hNf,hSt⟩:=ade (m:=(sh 0).names.length) (λj hj=>(hBl.dat j hj).1) rfl hNO;obtain⟨bo4,asV,rfl,hc4,aqw,hBC⟩:=BC.Zd hBl.row;have bd4:Below w4.heap.size w4 w4.drew:=(aO _ _).drew;have kS:=acT (sh 0).k (sh 0).n (sh 0).c (sh 0).names.length asV bo4 f (dBy (sh 0).names.length f (Oa (sh 0).sizes l)) w4.drew k1 k2 k3 (hSr.nm 0 h0M).2 hc4 aqw (hBC.up (ay _) (λh=>h)) (λt ht=>(hBl.data hNf ht).below bd4 (ay _)) (λf' hR hS=>by rw[aaZ hNf hSt HLn.out.symm hR hS,jf];omega)
      go_wp2_with fail
      go_region_held3 (λw'=>w'.cell? ⟨b,o,none⟩=some (.int .i64 ((sh 0).k:Int))/\w'.cell? ⟨b,o+1,none⟩=some (.int .i64 ((sh 0).n:Int))/\w'.cell? ⟨b,o+3,none⟩=some (.int .i64 ((sh 0).c:Int))) (go_keep)
       ((first
         |(go_at_call 16;(with_reducible refine kS.mono ?_);rintro r w5 ⟨aqx,f',bN,bZ,cN,cZ,bS,cS,a,cp',hR',IJ,rfl,-,-,QK,J_⟩;have Z5:=bd4.trans aqx;clear aqx;have y0:=qK Z5 (ay _) e0;have y1:=qK Z5 (ay _) e1;have y3:=qK Z5 (ay _) e3)))
      have hjn:=aaZ (l:=l) hNf hSt HLn.out.symm hR' IJ;have hl0:(l.take (sh 0).sizes.sum).length=(sh 0).sizes.sum:=by rw[jf];omega
      rw[hjn,hl0]at QK J_;clear kS hjn hR' IJ hBC y0 y1 y3 e0 e1 e3;have alU:Below w2.heap.size w2 w5:=hbr.trans ((Xg.trans (Z5.mono Xg.size)).mono hbr.size);have CU:Below h w w5:=aeX.trans (alU.mono ag);have ht5:=qH Zc λg hg=>alU.block g (Zc.lt g hg).2
      have QL:=agi.below alU (ay _);have Y_:=(hBl.Ag Z5 (ay _)).take HLn.out.symm
      have yf:∀t,t<(sh 0).n->w5.cell? ⟨bS,t*7+6,none⟩=some (.slice (a t) (rO (sh 0).k (sh 0).sizes.sum) (cp' t))/\qP w5 (.slice (a t) (rO (sh 0).k (sh 0).sizes.sum) (cp' t)) (rP (He (sh 0).k (rO (sh 0).k (sh 0).sizes.sum) (l.take (sh 0).sizes.sum) t)):=λt ht=>by
       refine⟨?_,?_⟩
       .rw[QK.cellAt (t*7+6) ag,alj _ _ _ ht ag];rfl
       .rw[aio];exact yT (J_ t ht)
      have hFl:∀t,t<i->((sh t).qC=He (sh 0).k (rO (sh 0).k (sh 0).sizes.sum) (l.take (sh 0).sizes.sum) (sh t).i\/¬D8 i sh (l.take (sh 0).sizes.sum)):=λt ht=>by
       by_cases q:(sh t).qC=He (sh 0).k (rO (sh 0).k (sh 0).sizes.sum) (l.take (sh 0).sizes.sum) (sh t).i
       .exact .inl q
       .exact .inr λhF=>q (hF.2 t ht)
      have hlc:∀t,t<i->(sh t).qC.length<=1048576:=λt ht=>by rw[LP t ht];omega
      clear QK J_ hBl Zc aeX alU Xg Z5 hbr hb bd1 bd4 hSr agi hc hc4 aqw hNf hSt hsq hgc LP;generalize hLL:rO (sh 0).k (sh 0).sizes.sum=L at*;have HLL:Hid (rO (sh 0).k (sh 0).sizes.sum=L):=hLL;clear hLL;generalize l.take (sh 0).sizes.sum=l0 at*;go_wp2;have hz6:h<=w5.heap.size:=hh▸CU.size;generalize hz5:w5.heap.size=h5 at*
      go_loopw [16] (λvi wq=>∃x:Nat,x<=i/\vi=.int .i64 (x:Int)/\Below h5 w5 wq/\aqv x L l0 sh) (λvi _=>i-(intOf vi).toNat)
      case atStart=>exact⟨0,ag,rfl,aO _ _,λt ht=>absurd ht ag⟩
      case round=>
       obtain⟨x,hx,rfl,hb,xg⟩:=hrel;by_cases qB:x<i
       .have xZ:(x:Int)<(i:Int):=ag;have hxn:(((sh x).i:Nat):Int)<(((sh 0).n:Nat):Int):=by have:=VX x qB;omega
        have hSx:=QL.below hb (fA hz5);obtain⟨b',o',e',_,hcx⟩:=hSx.cells ag;cases e';have rx:=hcx x qB;unfold Me at rx;obtain⟨-,-,p2,-,-,-,p6⟩:=Eg rx;obtain⟨c1,c2⟩:=yf _ (VX x qB);replace c1:=qK hb (fA hz5) c1;replace c2:=c2.aa0 hb (fA hz5);have bdx:Below wr.heap.size wr wr.drew:=(aO _ _).drew;have kQ:=aa1 (vC x) _ (sh x).qC _ wr.drew ((hSx.cl x qB).below bdx) (c2.below bdx) (hlc x qB);obtain⟨pc,cc',ec⟩:=(hSx.cl x qB).len;rw[ec]at p6 kQ;have hF:=hFl x qB;clear rx hcx hSx ec c2;have hq:∀w7,(∃q,w7=wr.drew.drewN q)->Below h5 w5 w7:=λw7 ⟨q,e⟩=>by rw[e];exact below_drewN hb.drew q
        have arx:∀d,decide ((sh x).qC=He (sh 0).k L l0 (sh x).i)=d->(d=true->aqv (x+1) L l0 sh)/\(d=false->¬D8 i sh l0):=λd e=>by
         refine⟨λh t ht=>?_,λh=>hF.resolve_left (gQ (e.trans h))⟩;by_cases et:t=x
         .rw[et];exact fK (e.trans h)
         .exact xg t ag
        generalize hdq:decide ((sh x).qC=He (sh 0).k L l0 (sh x).i)=dq at kQ;obtain⟨hy,PK⟩:=arx dq hdq;clear hdq arx hF;generalize(rP (sh x).qC).length=lx at*;generalize(sh x).i=ix at*;cases dq
        all_goals
         go_wp2_with fail
         go_region_held3 (λw'=>w'.cell? ⟨b,o+x*7+2,none⟩=some (.int .i64 (ix:Int))/\w'.cell? ⟨b,o+x*7+6,none⟩=some (.slice pc lx cc')/\w'.cell? ⟨bS,ix*7+6,none⟩=some (.slice (a ix) L (cp' ix))) (go_keep)
          ((first
            |(go_at_call 17;(with_reducible refine kQ.mono ?_);rintro r w7 ⟨rfl,hw7⟩;have hb7:=hq w7 hw7;obtain⟨y1,y2,y3⟩:w7.cell? ⟨b,o+x*7+2,none⟩=some (.int .i64 (ix:Int))/\w7.cell? ⟨b,o+x*7+6,none⟩=some (.slice pc lx cc')/\w7.cell? ⟨bS,ix*7+6,none⟩=some (.slice (a ix) L (cp' ix)):=(by obtain⟨q,rfl⟩:=hw7;exact⟨p2,p6,c1⟩);clear hw7)))
        .go_wp2
         go_ret3
         exact⟨by rw[hh];exact CU.trans (hb7.mono hz6),_,_,13,rfl,by rw[hh];exact qH ht5 λg hg=>hb7.block g (hz5▸(ht5.lt g hg).2),by rw[HM.out,HS.out];exact .inr ⟨hE,l0,huq,.inr ⟨rfl,PK (by trivial),rfl⟩⟩⟩
        .go_wp2
         go_roundw
         case rel=>exact⟨x+1,ag,aV,hb7,hy (by trivial)⟩
         case measure=>simp[intOf];omega
       .obtain rfl:x=i:=ag;have atF:¬((x:Int)<(x:Int)):=ag;go_wp2
        go_ret3
        exact⟨CU.trans (hb.mono hz6),_,_,0,rfl,qH ht5 λg hg=>hb.block g (hz5▸(ht5.lt g hg).2),by rw[HM.out,HS.out];exact .inr ⟨hE,l0,huq,.inl ⟨rfl,⟨hl0,λt ht=>by rw[HLL.out];exact xg t ht⟩,_,f,Y_.Ag hb (fA hz5)⟩⟩⟩
   .have hne:((e:Int)==0)=false:=aJ;go_wp2
    go_ret3
    exact⟨by rw[hh];exact aeX,_,_,e,rfl,by rw[hh];exact Zc,by rw[HM.out,HS.out];exact .inl ⟨ag,hE,rfl⟩⟩
