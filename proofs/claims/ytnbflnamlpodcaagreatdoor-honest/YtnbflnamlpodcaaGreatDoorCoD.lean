import Derived.Test.YtnbflnamlpodcaaGreatDoorSvC
import Derived.BigQuiet
set_option maxHeartbeats 4000000
set_option maxRecDepth 100000
namespace Go.Proofs.Y
open Go.Proofs.Tryz
open Go.RowKit Go.Deep
theorem Tryz.anS:(prog.info? 143).map (λi=>(i.zero,i.size,i.bytes))=some (some (.agg #[.int .i64 0,.slice none 0 0]),2,32):=aj
theorem Tryz.aow:(prog.info? 4).map (λi=>(i.zero,i.size,i.bytes))=some (some (.bool false),1,1):=aj
theorem aib{w:ah}{b o:Nat}{v:ai}(h:w.cell? ⟨b,o,none⟩=some v):b<w.heap.size:=block_lt_of_cell h
structure CL where
 L:Nat
 ix:Nat->Nat
 db:Nat->aY
 dc:Nat->Nat
def CL.d(q:CL)(i:Nat):ai:=.slice (q.db i) q.L (q.dc i)
structure CAt(w:ah)(b k:Nat)(q:CL):Prop where
 lt:b<w.heap.size
 c0:∀i,i<k->w.cell? ⟨b,i*2,none⟩=some (.int .i64 ((q.ix i:Nat):Int))
 c1:∀i,i<k->w.cell? ⟨b,i*2+1,none⟩=some (q.d i)
structure CO(w:ah)(b o n:Nat)(q:CL):Prop where
 lt:b<w.heap.size
 c0:∀i,i<n->w.cell? ⟨b,o+i*2,none⟩=some (.int .i64 ((q.ix i:Nat):Int))
 c1:∀i,i<n->w.cell? ⟨b,o+i*2+1,none⟩=some (.slice (q.db i) q.L (q.dc i))
theorem CO.below{w w':ah}{b o n B:Nat}{q:CL}(h:CO w b o n q)(hb:Below B w w')(hB:w.heap.size<=B):CO w' b o n q:=
 ⟨bG h.lt hb.size,λi hi=>(hb.cell (p:=⟨b,_,none⟩) (bG h.lt hB)).trans (h.c0 i hi),λi hi=>(hb.cell (p:=⟨b,_,none⟩) (bG h.lt hB)).trans (h.c1 i hi)⟩
def cvv(q:CL)(o:Option Nat)(p:Nat):ai:=match o with
 |some i=>if p=0 then .int .i64 ((q.ix i:Nat):Int)else q.d i
 |none=>if p=0 then .int .i64 0 else .slice none 0 0
def UE(q:CL)(fl:Nat->Option Nat)(j:Nat):ai:=cvv q (fl (j/2)) (j%2)
def Hy(q:CL)(O:aA):aK:=O.flatMap λi=>[.int .i64 ((q.ix i:Nat):Int),q.d i]
theorem UF(q:CL):∀(O:aA)(m i:Nat),O[m]?=some i->(Hy q O)[m*2]?=some (.int .i64 ((q.ix i:Nat):Int))/\(Hy q O)[m*2+1]?=some (q.d i)
 |[],m,i,h=>by simp at h
 |x::O,0,i,h=>by simp at h;subst h;exact⟨rfl,rfl⟩
 |x::O,m+1,i,h=>by have:=UF q O m i mD;have e:Hy q (x::O)=.int .i64 ((q.ix x:Nat):Int)::q.d x::Hy q O:=rfl;rw[e,show(m+1)*2=m*2+1+1 by omega];simp only[jD];exact this
theorem aaQ(q:CL)(O:aA)(c:Nat):Hy q (O++[c])=Hy q O++[.int .i64 ((q.ix c:Nat):Int),q.d c]:=by simp[Hy]
theorem WY(w:ah)(x y:ai)(t:aF):∀j u,[x,y][j]?=some u->(w.alloc (.cells #[x,y] t)).cell? ((⟨w.heap.size,0,none⟩:Addr).add j)=some u:=by
 intro j u hj
 match j,hj with
 |0,hj=>
  simp at hj;subst hj;simp[Addr.add]
 |1,hj=>
  simp at hj;subst hj;simp[Addr.add]
theorem ae3{w:ah}{b k p i:Nat}{q:CL}{fl:Nat->Option Nat}(h:w.rowIs b 143 (k*2) (UE q fl)):
  ((w.setCell ⟨b,p*2,none⟩ (.int .i64 ((q.ix i:Nat):Int))).setCell ⟨b,p*2+1,none⟩ (q.d i)).rowIs b 143 (k*2) (UE q λx=>if x=p then some i else fl x):=
 ((h.set (p*2) _).set (p*2+1) _).congr λj _=>by
   unfold UE;by_cases e1:j=p*2+1
   .subst e1;rw[ay rfl,show(p*2+1)/2=p by omega,show(p*2+1)%2=1 by omega];dsimp only;rw[ay rfl];rfl
   .rw[au e1];by_cases e2:j=p*2
    .subst e2;rw[ay rfl,show p*2/2=p by omega,show p*2%2=0 by omega];dsimp only;rw[ay rfl];rfl
    .rw[au e2];dsimp only;rw[au ag]
structure PM(w:ah)(k:Nat)(q:CL)(fl:Nat->Option Nat)(O:aA)(vo:ai)(w':ah):Prop where
 pl:w'.rowIs w.heap.size 143 (k*2) (UE q fl)
 fi:w'.rowIs (w.heap.size+1) 4 k (λt=>.bool (fl t).isSome)
 ot:w'.ownsRow (w.heap.size+2) 143 2 vo O.length (Hy q O)
 sz:w.heap.size+2<=w'.heap.size
 be:Below w.heap.size w w'
theorem age(w:ah)(k:Nat)(q:CL):(w.alloc (.cells (madeCells #[.int .i64 0,.slice none 0 0] (k*2)) 143)).rowIs w.heap.size 143 (k*2) (UE q λ_=>none):=by
 have:=World.rowIs_alloc w (madeCells #[.int .i64 0,.slice none 0 0] (k*2)) 143 (UE q λ_=>none) (λi hi=>by rw[iO]at hi;have h2:i%2=0\/i%2=1:=ag;unfold madeCells UE cvv;rw[pX,Array.getElem?_range];rw[ay hi];rcases h2 with h|h<;>simp[h])
 rwa[iO]at this
theorem X8(k:Nat)(hk:k<=128)(w:ah):(Instr.makeSlice 141 (.int .i64 (k:Int)) (.int .i64 (k:Int))).run prog w=.ok (.slice (some ⟨w.heap.size,0,none⟩) k k) (w.alloc (.cells (madeCells #[.int .i64 0,.slice none 0 0] (k*2)) 143)):=by obtain⟨i0,Ak,yz,xA,wH⟩:=dm Tryz.anS;have:=jQ (P:=prog) w 141 143 i0 _ underlying141 Ak yz .i64 .i64 k k ag (Int.le_refl _) ik ag;exact ayA
theorem adi(k:Nat)(hk:k<=128)(w:ah):(Instr.makeSlice 216 (.int .i64 (k:Int)) (.int .i64 (k:Int))).run prog w=.ok (.slice (some ⟨w.heap.size,0,none⟩) k k) (w.alloc (.cells (madeCells #[.bool false] k) 4)):=
 run_make_row' (P:=prog) 216 4 (.bool false) 1 underlying216 Tryz.aow rfl .i64 .i64 k ag ag w
theorem aic(w:ah)(k:Nat)(q:CL):PM w k q (λ_=>none) [] (.slice none 0 0) ((w.alloc (.cells (madeCells #[.int .i64 0,.slice none 0 0] (k*2)) 143)).alloc (.cells (madeCells #[.bool false] k) 4)):=by refine⟨(age w k q).alloc _,?_,dK _ _ _ _,ax,((aT _ _).alloc (az _) _).alloc ax _⟩;have:=World.rowIs_made (w.alloc (.cells (madeCells #[.int .i64 0,.slice none 0 0] (k*2)) 143)) (.bool false) k 4;exact ayh
def agf(k:Nat)(q:CL)(w:ah)(e:Ending)(w':ah):Prop:=
 ∃σ,e=.returned (.slice (some ⟨w.heap.size,0,none⟩) k k)/\NF k q.ix σ/\w'.rowIs w.heap.size 143 (k*2) (UE q λt=>some (σ t))/\Below w.heap.size w w'
theorem aid(k b o cap:Nat)(q:CL)(w:ah)(hk:k<=128)(hx:∀i,i<k->q.ix i<128)(hc:CO w b o k q)(hi:∀i j,i<k->j<k->i≠j->q.ix i≠q.ix j):
  Calls prog 108 #[.slice (some ⟨b,o,none⟩) k cap] w λe w'=>agf k q w e w':=by
 obtain⟨i0,Ak,yz,xA,wH⟩:=dm Tryz.anS;have m1:=X8 k hk w;have m2:=adi k hk (w.alloc (.cells (madeCells #[.int .i64 0,.slice none 0 0] (k*2)) 143));have h0:=aic w k q;generalize madeCells #[.int .i64 0,.slice none 0 0] (k*2)=Z1 at m1 m2 h0;generalize madeCells #[.bool false] k=Z2 at m2 h0;go_enter func108,ntmps108;go_wp2;clear m1 m2;generalize(w.alloc (Obj.cells Z1 143)).alloc (Obj.cells Z2 4)=w0 at h0⊢
 go_loopw [5,17] (λvo vi wr=>∃c:Nat,c<=k/\vi=.int .i64 (c:Int)/\∃fl O,Pl k q.ix c fl O/\PM w k q fl O vo wr) (λ_ i _=>k-(intOf i).toNat)
 case atStart=>exact⟨0,ag,rfl,_,_,aie k q.ix,h0⟩
 case round=>
  clear h0;obtain⟨c,hcc,rfl,fl,O,hP,hM⟩:=hrel;by_cases qK:c<k
  .have Am:(c:Int)<(k:Int):=ag;have hcw:=hc.below hM.be (az _);have g0:=hcw.c0 c qK;have g1:=hcw.c1 c qK;have L_:=hcw.lt;have hsz:=hM.sz;by_cases hix:q.ix c<k
   .have at7:((q.ix c:Nat):Int)<(k:Int):=ag;obtain⟨hn,hP2⟩:=hP.own (λi hic=>hi i c ag qK ag) hix;have pl1:=hM.pl.alloc (.cells #[.int .i64 ((q.ix c:Nat):Int),.slice (q.db c) q.L (q.dc c)] 143);have fi1:=hM.fi.alloc (.cells #[.int .i64 ((q.ix c:Nat):Int),.slice (q.db c) q.L (q.dc c)] 143);have ot1:=hM.ot.alloc (.cells #[.int .i64 ((q.ix c:Nat):Int),.slice (q.db c) q.L (q.dc c)] 143);have be1:=hM.be.alloc hM.be.size (.cells #[.int .i64 ((q.ix c:Nat):Int),.slice (q.db c) q.L (q.dc c)] 143);have yE:w.heap.size+2<=(wr.alloc (.cells #[.int .i64 ((q.ix c:Nat):Int),.slice (q.db c) q.L (q.dc c)] 143)).heap.size:=aS
    have n0:(wr.alloc (.cells #[.int .i64 ((q.ix c:Nat):Int),.slice (q.db c) q.L (q.dc c)] 143)).rowIs wr.heap.size 143 2 (λj=>if j=0 then .int .i64 ((q.ix c:Nat):Int)else .slice (q.db c) q.L (q.dc c)):=
     World.rowIs_alloc wr #[.int .i64 ((q.ix c:Nat):Int),.slice (q.db c) q.L (q.dc c)] 143 _ (λi hi=>by have:i=0\/i=1:=jq;rcases this with rfl|rfl<;>rfl)
    generalize hW1:wr.alloc (.cells #[.int .i64 ((q.ix c:Nat):Int),.slice (q.db c) q.L (q.dc c)] 143)=W1 at pl1 fi1 ot1 be1 yE n0;have a0:=n0.cell (i:=0) ag;have a1:=n0.cell (i:=1) ag;have af0:=n0.frozen 0;have af1:=n0.frozen 1;simp only[aX,kQ,bQ]at a0 a1;have p0:=pl1.cell (i:=q.ix c*2) ag;have pf0:=pl1.frozen (q.ix c*2);have hne:wr.heap.size≠w.heap.size:=ag;have pl3:=ae3 (p:=q.ix c) (i:=c) pl1;unfold CL.d at pl3;have p1:=(pl1.set (q.ix c*2) (.int .i64 ((q.ix c:Nat):Int))).cell (i:=q.ix c*2+1) ag;have pf1:=(pl1.set (q.ix c*2) (.int .i64 ((q.ix c:Nat):Int))).frozen (q.ix c*2+1);have fi2:=fi1.setOther (a:=⟨w.heap.size,q.ix c*2,none⟩) avo (.int .i64 ((q.ix c:Nat):Int));have n2:=n0.setOther (a:=⟨w.heap.size,q.ix c*2,none⟩) hne (.int .i64 ((q.ix c:Nat):Int));have ot2:=eQ ot1 (a:=⟨w.heap.size,q.ix c*2,none⟩) axr (.int .i64 ((q.ix c:Nat):Int));have be2:=be1.setCell (p:=⟨w.heap.size,q.ix c*2,none⟩) (az _) (.int .i64 ((q.ix c:Nat):Int));have zU:w.heap.size+2<=(W1.setCell ⟨w.heap.size,q.ix c*2,none⟩ (.int .i64 ((q.ix c:Nat):Int))).heap.size:=by simpa using yE
    generalize Mc:W1.setCell ⟨w.heap.size,q.ix c*2,none⟩ (.int .i64 ((q.ix c:Nat):Int))=W2 at pl3 p1 pf1 fi2 n2 ot2 be2 zU;have fi3:=fi2.setOther (a:=⟨w.heap.size,q.ix c*2+1,none⟩) avo (.slice (q.db c) q.L (q.dc c));have n3:=n2.setOther (a:=⟨w.heap.size,q.ix c*2+1,none⟩) hne (.slice (q.db c) q.L (q.dc c));have ot3:=eQ ot2 (a:=⟨w.heap.size,q.ix c*2+1,none⟩) axr (.slice (q.db c) q.L (q.dc c));have be3:=be2.setCell (p:=⟨w.heap.size,q.ix c*2+1,none⟩) (az _) (.slice (q.db c) q.L (q.dc c));have xI:w.heap.size+2<=(W2.setCell ⟨w.heap.size,q.ix c*2+1,none⟩ (.slice (q.db c) q.L (q.dc c))).heap.size:=by simpa using zU
    generalize hW3:W2.setCell ⟨w.heap.size,q.ix c*2+1,none⟩ (.slice (q.db c) q.L (q.dc c))=W3 at pl3 fi3 n3 ot3 be3 xI;have b0:=n3.cell (i:=0) ag;simp only[aX]at b0;have f0:=fi3.cell hix;have ff0:=fi3.frozen (q.ix c);rw[hn]at f0
    have fi4:=(fi3.set (q.ix c) (.bool true)).congr (g:=λt=>.bool (if t=q.ix c then some c else fl t).isSome) (λt _=>by
     by_cases e:t=q.ix c
     .rw[ay e];simp[e]
     .rw[au e];simp[e])
    have pl4:=pl3.setOther (a:=⟨w.heap.size+1,q.ix c,none⟩) awr (.bool true);have ot4:=eQ ot3 (a:=⟨w.heap.size+1,q.ix c,none⟩) (by show w.heap.size+1<w.heap.size+2;omega) (.bool true);have be4:=be3.setCell (p:=⟨w.heap.size+1,q.ix c,none⟩) aws (.bool true);have hs4:w.heap.size+2<=(W3.setCell ⟨w.heap.size+1,q.ix c,none⟩ (.bool true)).heap.size:=by simpa using xI
    have hPM:PM w k q (λx=>if x=q.ix c then some c else fl x) O u5 (W3.setCell ⟨w.heap.size+1,q.ix c,none⟩ (.bool true)):=⟨pl4,fi4,ot4,hs4,be4⟩;clear pl1 fi1 ot1 be1 yE n0 fi2 n2 ot2 be2 zU pl3 fi3 n3 ot3 be3 xI fi4 pl4 ot4 be4 hs4 hM hP hcw;generalize q.ix c=x at*;generalize UE q fl (x*2)=y0 at p0;generalize hy1:(if x*2+1=x*2 then Value.int .i64 ((x:Nat):Int)else UE q fl (x*2+1))=y1 at p1;clear hy1;go_wp2
    go_roundw
    case rel=>exact⟨c+1,ag,bU,_,_,hP2,hPM⟩
    case measure=>simp[intOf];omega
   .have at7:¬(((q.ix c:Nat):Int)<(k:Int)):=ag;have hP2:=hP.other (show k<=q.ix c by omega)
    have hOl:O.length<=c:=by
     have h1:=hP.cnt;have h2:=aif fl (gY k)
     have:un fl k<=k:=by
      have:∀t,un fl t<=t:=λt=>by
       induction t with
       |zero=>exact az _
       |succ t ih=>rw[un];have:e1 (fl t)<=1:=by{cases fl t<;>simp[e1]};omega
      exact this k
     omega
    have pl1:=(hM.pl.alloc (.cells #[.int .i64 ((q.ix c:Nat):Int),.slice (q.db c) q.L (q.dc c)] 143)).alloc (.cells #[.int .i64 ((q.ix c:Nat):Int),.slice (q.db c) q.L (q.dc c)] 143);have fi1:=(hM.fi.alloc (.cells #[.int .i64 ((q.ix c:Nat):Int),.slice (q.db c) q.L (q.dc c)] 143)).alloc (.cells #[.int .i64 ((q.ix c:Nat):Int),.slice (q.db c) q.L (q.dc c)] 143);have ot1:=(hM.ot.alloc (.cells #[.int .i64 ((q.ix c:Nat):Int),.slice (q.db c) q.L (q.dc c)] 143)).alloc (.cells #[.int .i64 ((q.ix c:Nat):Int),.slice (q.db c) q.L (q.dc c)] 143);have be1:=(hM.be.alloc hM.be.size (.cells #[.int .i64 ((q.ix c:Nat):Int),.slice (q.db c) q.L (q.dc c)] 143)).alloc (by have:=hM.be.size;simp;omega) (.cells #[.int .i64 ((q.ix c:Nat):Int),.slice (q.db c) q.L (q.dc c)] 143);have yE:w.heap.size+2<=((wr.alloc (.cells #[.int .i64 ((q.ix c:Nat):Int),.slice (q.db c) q.L (q.dc c)] 143)).alloc (.cells #[.int .i64 ((q.ix c:Nat):Int),.slice (q.db c) q.L (q.dc c)] 143)).heap.size:=aS;have Wv:=WY (wr.alloc (.cells #[.int .i64 ((q.ix c:Nat):Int),.slice (q.db c) q.L (q.dc c)] 143)) (.int .i64 ((q.ix c:Nat):Int)) (.slice (q.db c) q.L (q.dc c)) 143;have esz:(wr.alloc (.cells #[.int .i64 ((q.ix c:Nat):Int),.slice (q.db c) q.L (q.dc c)] 143)).heap.size=wr.heap.size+1:=ax;rw[esz]at Wv
    have anK:∀u∈[Value.int .i64 ((q.ix c:Nat):Int),Value.slice (q.db c) q.L (q.dc c)],u.oneCell'=true:=by exact azu
    go_wp2_with(at_builtin;refine eP _ rfl _ _ 141 rfl (w.heap.size+2) 143 i0 (.agg #[.int .i64 0,.slice none 0 0]) 2 32 underlying141 Ak yz xA wH rfl aC _ _ _ rfl ot1 ⟨wr.heap.size+1,0,none⟩ 1 1 [.int .i64 ((q.ix c:Nat):Int),.slice (q.db c) q.L (q.dc c)] rfl rfl Wv anK dB ag yE ?_;intro v' w1 xJ sO _)
    have ot2:w1.ownsRow (w.heap.size+2) 143 2 v' (O++[c]).length (Hy q (O++[c])):=by rw[aaQ,bK];exact xJ
    have uI:=λj hj=>(ot1.lt j hj).1
    have Bz:∀j,j<w.heap.size+2->w1.heap[j]?=((wr.alloc (.cells #[.int .i64 ((q.ix c:Nat):Int),.slice (q.db c) q.L (q.dc c)] 143)).alloc (.cells #[.int .i64 ((q.ix c:Nat):Int),.slice (q.db c) q.L (q.dc c)] 143)).heap[j]?:=λj hj=>sO.block j ag (λe=>by have:=uI j e.symm;omega)
    have hPM:PM w k q fl (O++[c]) v' w1:=⟨pl1.of_block (Bz _ ag),fi1.of_block (Bz _ ag),ot2,bu yE sO.size,be1.grown sO ag (λj hj=>by have:=uI j hj;omega)⟩;clear pl1 fi1 ot1 be1 xJ sO ot2 Bz;go_wp2
    go_roundw
    case rel=>exact⟨c+1,ag,bU,_,_,hP2,hPM⟩
    case measure=>simp[intOf];omega
  .obtain rfl:c=k:=ag;have Hg:¬((c:Int)<(c:Int)):=ag;have hpd:=hP.aqn hi
   obtain⟨ad,ahP,g,rfl,Md,had,Tf,hgc⟩:∃ad ahP g,u5=.slice ad O.length ahP/\O.length<=ahP/\(0<O.length->ad=some ⟨g,0*2,none⟩)/\w.heap.size+2<=g/\∀m i,O[m]?=some i->wr.cell? ⟨g,m*2,none⟩=some (.int .i64 ((q.ix i:Nat):Int))/\wr.cell? ⟨g,m*2+1,none⟩=some (q.d i):=by
    rcases hM.ot.2 with⟨h1,h2⟩|⟨g,ahP,cur,h1,h2,h3,h4,h5,h6,h7⟩
    .refine⟨none,0,w.heap.size+2,?_,ag,λh=>absurd h ag,az _,λm i hm=>?_⟩
     .rw[h2];exact h1
     .have:=(fJ.1 hm).1;omega
    .refine⟨_,ahP,g,h1,ag,λ_=>rfl,h2,λm i hm=>?_⟩;have hml:=(fJ.1 hm).1;have ho:=hM.ot;rw[h1]at ho;obtain⟨o1,o2⟩:=UF q O m i hm;exact⟨by rw[ho.cellAt (m*2) ag];exact o1,by rw[ho.cellAt (m*2+1) ag];exact o2⟩
   have aoe:=λt=>hP.room (t:=t)
   have hP1:=hP;clear hP;have pl0:wr.rowIs w.heap.size 143 (c*2) (UE q λx=>if x<0 then some (sg fl O x)else fl x):=hM.pl.congr λj _=>by simp[UE]
   have fi0:=hM.fi;have be0:=hM.be;have hsz:=hM.sz;clear hM;go_wp2
   go_loopw [5,42] (λvo vi wq=>∃t:Nat,t<=c/\vi=.int .i64 (t:Int)/\(∃ad c',vo=.slice ad (O.length-un fl t) c'/\O.length-un fl t<=c'/\(un fl t<O.length->ad=some ⟨g,un fl t*2,none⟩))/\wq.rowIs w.heap.size 143 (c*2) (UE q λx=>if x<t then some (sg fl O x)else fl x)/\wq.rowIs (w.heap.size+1) 4 c (λt=>.bool (fl t).isSome)/\Below w.heap.size w wq/\(∀m i,O[m]?=some i->wq.cell? ⟨g,m*2,none⟩=some (.int .i64 ((q.ix i:Nat):Int))/\wq.cell? ⟨g,m*2+1,none⟩=some (q.d i))) (λ_ i _=>c-(intOf i).toNat)
   case atStart=>exact⟨0,ag,rfl,⟨ad,ahP,rfl,Md,had⟩,pl0,fi0,be0,hgc⟩
   case round=>
    clear pl0 fi0 be0 hgc had Md;obtain⟨t,ht,rfl,⟨ad,c',rfl,hc',had⟩,vY,hfi,hbe,hgc⟩:=hrel;by_cases aaG:t<c
    .have auw:(t:Int)<(c:Int):=ag;have f0:=hfi.cell aaG;cases hf:fl t with
     |some i=>
      rw[hf]at f0;have f0':wr.cell? ⟨w.heap.size+1,t,none⟩=some (.bool true):=f0;clear f0;have hun:un fl (t+1)=un fl t:=by rw[un,hf];rfl
      have aqo:wr.rowIs w.heap.size 143 (c*2) (UE q λx=>if x<t+1 then some (sg fl O x)else fl x):=vY.congr λj _=>by
       simp only[UE];by_cases e:j/2=t
       .rw[e,au ag,ay ag,hf];simp only[sg,hf]
       .by_cases e2:j/2<t
        .rw[ay e2,ay ag]
        .rw[au e2,au ag]
      rw[<-hun]at hc' had⊢;go_wp2
      go_roundw
      case rel=>exact⟨t+1,ag,bU,⟨ad,c',rfl,hc',had⟩,aqo,hfi,hbe,hgc⟩
      case measure=>simp[intOf];omega
     |none=>
      rw[hf]at f0;have f0':wr.cell? ⟨w.heap.size+1,t,none⟩=some (.bool false):=f0;clear f0;have hm:=aoe t aaG hf;have asL:=had hm;subst asL;clear had;have hun:un fl (t+1)=un fl t+1:=by rw[un,hf];rfl
      have hsg:O[un fl t]?=some (sg fl O t):=by simp only[sg,hf];rw[bH,cO hm];rfl
      obtain⟨g0,g1⟩:=hgc _ _ hsg;have p0:=vY.cell (i:=t*2) ag;have pf0:=vY.frozen (t*2);have p1:=(vY.set (t*2) (.int .i64 ((q.ix (sg fl O t):Nat):Int))).cell (i:=t*2+1) ag;have pf1:=(vY.set (t*2) (.int .i64 ((q.ix (sg fl O t):Nat):Int))).frozen (t*2+1)
      have aqo:=(ae3 (p:=t) (i:=sg fl O t) vY).congr (g:=UE q λx=>if x<t+1 then some (sg fl O x)else fl x) λj _=>by
       simp only[UE];by_cases e:j/2=t
       .rw[e,ay rfl,ay ag]
       .rw[au e];by_cases e2:j/2<t
        .rw[ay e2,ay ag]
        .rw[au e2,au ag]
      have asM:=(hfi.setOther (a:=⟨w.heap.size,t*2,none⟩) avo (.int .i64 ((q.ix (sg fl O t):Nat):Int))).setOther (a:=⟨w.heap.size,t*2+1,none⟩) avo (q.d (sg fl O t));have asN:=(hbe.setCell (p:=⟨w.heap.size,t*2,none⟩) (az _) (.int .i64 ((q.ix (sg fl O t):Nat):Int))).setCell (p:=⟨w.heap.size,t*2+1,none⟩) (az _) (q.d (sg fl O t))
      have asO:∀m i,O[m]?=some i->((wr.setCell ⟨w.heap.size,t*2,none⟩ (.int .i64 ((q.ix (sg fl O t):Nat):Int))).setCell ⟨w.heap.size,t*2+1,none⟩ (q.d (sg fl O t))).cell? ⟨g,m*2,none⟩=some (.int .i64 ((q.ix i:Nat):Int))/\((wr.setCell ⟨w.heap.size,t*2,none⟩ (.int .i64 ((q.ix (sg fl O t):Nat):Int))).setCell ⟨w.heap.size,t*2+1,none⟩ (q.d (sg fl O t))).cell? ⟨g,m*2+1,none⟩=some (q.d i):=λm i hm=>by
       have e:((wr.setCell ⟨w.heap.size,t*2,none⟩ (.int .i64 ((q.ix (sg fl O t):Nat):Int))).setCell ⟨w.heap.size,t*2+1,none⟩ (q.d (sg fl O t))).heap[g]?=wr.heap[g]?:=by rw[jR _ _ _ _ (by show g≠w.heap.size;omega),jR _ _ _ _ (by show g≠w.heap.size;omega)]
       exact⟨(avM (a:=⟨g,m*2,none⟩) e).trans (hgc m i hm).1,(avM (a:=⟨g,m*2+1,none⟩) e).trans (hgc m i hm).2⟩
      have hlen:∃r,O.length-un fl t=r+1/\O.length-un fl (t+1)=r:=⟨O.length-un fl (t+1),ag,rfl⟩;obtain⟨r,xK,Hl⟩:=hlen;rw[xK]at hc'⊢;clear hgc hsg vY hfi hbe aoe hP1 hpd hi;simp only[CL.d]at*;generalize sg fl O t=z at*;generalize q.ix z=x at*;generalize hy0:UE q (λx=>if x<t then some (sg fl O x)else fl x) (t*2)=y0 at p0;generalize hy1:(if t*2+1=t*2 then Value.int .i64 ((x:Nat):Int)else UE q (λx=>if x<t then some (sg fl O x)else fl x) (t*2+1))=y1 at p1;clear hy0 hy1;go_wp2
      go_roundw
      case rel=>
       refine⟨t+1,ag,bU,⟨_,c'-1,by rw[Hl],ag,λh=>?_⟩,aqo,asM,asN,asO⟩;rw[au ag,hun,show(un fl t+1)*2=un fl t*2+2 by omega]
      case measure=>simp[intOf];omega
    .obtain rfl:t=c:=ag;have Hg:¬((t:Int)<(t:Int)):=ag;go_wp2;go_ret;exact⟨sg fl O,rfl,hpd,vY.congr λj hj=>by simp only[UE];rw[ay ag],hbe⟩
end Go.Proofs.Y
namespace Go.Proofs.Y
open Go.Proofs.Tryz
open Go.Conc Go.RowKit Go.Gh
open Go.ConcR (Payload)
def uh(xs:aA):aB:=(xs.map λx=>(Value.int .u8 ((x:Nat):Int))).toArray
theorem yK(xs:aA)(i:Nat):(uh xs)[i]?=(xs[i]?).map λx=>Value.int .u8 ((x:Nat):Int):=by simp[uh]
theorem UG(xs:aA)(i x:Nat):(uh xs).setIfInBounds i (.int .u8 ((x:Nat):Int))=uh (xs.set i x):=by simp[uh,List.map_set]
def AU(f:Nat):aA->aA->aA
 |x::xs,y::ys=>(x^^^mul y f)::AU f xs ys
 |xs,_=>xs
theorem aaR(f:Nat)(xs:aA):AU f xs []=xs:=by cases xs<;>rfl
theorem RG(f:Nat):∀xs ys:aA,(AU f xs ys).length=xs.length
 |[],_=>by simp[AU]
 |_::_,[]=>by simp[AU]
 |x::xs,y::ys=>by simp[AU,RG f xs ys]
theorem X9:∀xs ys:aA,AU 0 xs ys=xs
 |[],_=>rfl
 |_::_,[]=>rfl
 |x::xs,y::ys=>by simp[AU,X9 xs ys,mul_zero]
theorem aaS(f:Nat):∀(xs ys:aA)(i:Nat),ys.length<=i->(AU f xs ys)[i]?=xs[i]?
 |[],_,_,_=>by simp[AU]
 |_::_,[],_,_=>by simp[AU]
 |x::xs,y::ys,0,h=>by simp at h
 |x::xs,y::ys,i+1,h=>by simp[AU,aaS f xs ys i mD]
theorem X_(f:Nat):∀(xs ys:aA)(m x y:Nat),xs[m]?=some x->ys[m]?=some y->(AU f xs (ys.take m)).set m (x^^^mul y f)=AU f xs (ys.take (m+1))
 |[],_,_,_,_,h,_=>by simp at h
 |_::_,[],_,_,_,_,h=>by simp at h
 |a::xs,b::ys,0,x,y,h1,h2=>by simp at h1 h2;subst h1;subst h2;simp[AU,aaR]
 |a::xs,b::ys,m+1,x,y,h1,h2=>by simp[AU];simpa using X_ f xs ys m x y iK jI
theorem ae4(f:Nat)(hf:f<256):∀xs ys:aA,(∀x∈xs,x<256)->(∀y∈ys,y<256)->∀z∈AU f xs ys,z<256
 |[],_,_,_=>by simp[AU]
 |_::_,[],h,_=>by simpa[AU]using h
 |x::xs,y::ys,h1,h2=>by
  intro z hz;simp only[AU,dX]at hz;rcases hz with rfl|hz
  .exact Dx (h1 x ax) (mul_lt (h2 y ax))
  .exact ae4 f hf xs ys (λa ha=>h1 a (by simp[ha])) (λa ha=>h2 a (by simp[ha])) z hz
theorem aox{o:Oper}{a:Act}{X:Act->ah->Prop}{r:Result Next}(h:∀K:Act->ah->Prop,(∀a' w',X a' w'->K a' w')->uponK o a K r):uponK o a X r:=h X λ_ _ x=>x
section
variable [Payload][rq]{main:Bool}{Wg C n B:Nat}{Cl:Nat->Prop}
structure AF(Wg C n B:Nat)(Cl:Nat->Prop)(w0:ah)(bl:Nat)(cur:aA)(bo oo:Nat)(ys:aA)(w:ah):Prop where
 bs:Bs C B w
 ex:Ex Wg C n B Cl (· =bl) w0 w
 ml:qZ w bl
 neC:bl≠C
 hB:B<=bl
 rdo:TD Wg C B w bo
 lto:bo<w.heap.size
 neo:bo≠bl
 hx:w.heap[bl]?=some (.cells (uh cur) 5)
 hy:∀i y,ys[i]?=some y->w.cell? ⟨bo,oo+i,none⟩=some (.int .u8 ((y:Nat):Int))
section
variable {w0 w w₁:ah}{bl bo oo:Nat}{cur ys:aA}
theorem AF.call(h:AF Wg C n B Cl w0 bl cur bo oo ys w)(hb:Bs C B w₁)(r:Ex Wg C n B Cl (λ_=>False) w w₁):AF Wg C n B Cl w0 bl cur bo oo ys w₁:=
 ⟨hb,h.ex.trans (r.weaken λ_=>False.elim),r.own _ h.ml,h.neC,h.hB,r.rdb h.rdo,bG h.lto r.size,h.neo,(r.mine _ h.ml id).trans h.hx,λi y e=>by rw[<-h.hy i y e];simp only[World.cell?,r.stands h.rdo id]⟩
theorem AF.rely(h:AF Wg C n B Cl w0 bl cur bo oo ys w)(r:Ro Wg C n B Cl w w₁):AF Wg C n B Cl w0 bl cur bo oo ys w₁:=h.call (h.bs.rely r) r.ex
theorem AF.set(h:AF Wg C n B Cl w0 bl cur bo oo ys w)(i x:Nat):AF Wg C n B Cl w0 bl (cur.set i x) bo oo ys (w.setCell ⟨bl,i,none⟩ (.int .u8 ((x:Nat):Int))):=
 ⟨h.bs.set _ _,h.ex.trans (Ex.set h.neC rfl (λhh=>by have:=h.hB;dsimp only at hh;omega)),sQ (w:=w) (w':=w.setCell _ _) rfl eY h.ml,h.neC,h.hB,
  h.rdo.imp (λx=>sQ (w:=w) (w':=w.setCell _ _) rfl eY x) id,by rw[t_];exact h.lto,h.neo,by rw[heap_set w h.hx,UG],λi y e=>by
  rw[oK _ _ _ _ (by intro e;injection e with e1;exact h.neo e1.symm)];exact h.hy i y e⟩
end
structure AG(Wg C n B:Nat)(Cl:Nat->Prop)(w0:ah)(bl:Nat)(cur:aA)(bo oo:Nat)(ys:aA)(N6:Nat)(T:aB)(w:ah):Prop where
 af:AF Wg C n B Cl w0 bl cur bo oo ys w
 m6:qZ w N6
 n6:N6≠bl
 h6:w.heap[N6]?=some (.cells T 209)
section
variable {w0 w w₁:ah}{bl bo oo N6:Nat}{T:aB}{cur ys:aA}
theorem AG.rely(h:AG Wg C n B Cl w0 bl cur bo oo ys N6 T w)(r:Ro Wg C n B Cl w w₁):AG Wg C n B Cl w0 bl cur bo oo ys N6 T w₁:=⟨h.af.rely r,(r.yL _).2 h.m6,h.n6,(r.mine _ h.m6).trans h.h6⟩
theorem AG.draw(h:AG Wg C n B Cl w0 bl cur bo oo ys N6 T w)(d:Nat):AG Wg C n B Cl w0 bl cur bo oo ys N6 T {w with drawn:=d}:=
 ⟨⟨⟨h.af.bs.tg,h.af.bs.hC,h.af.bs.hB,h.af.bs.ow⟩,⟨h.af.ex.size,h.af.ex.tape,h.af.ex.os,h.af.ex.tag,h.af.ex.own,h.af.ex.mine,h.af.ex.low,h.af.ex.cell,h.af.ex.pay⟩,h.af.ml,h.af.neC,h.af.hB,h.af.rdo,h.af.lto,h.af.neo,h.af.hx,h.af.hy⟩,h.m6,h.n6,h.h6⟩
theorem AG.tab{f:Nat}(hT:zX f 256=T)(h:AG Wg C n B Cl w0 bl cur bo oo ys N6 T w){x:Nat}(hx:x<256):w.cell? ⟨N6,x,none⟩=some (.int .u8 ((mul x f:Nat):Int)):=by rw[cell_of _ h.h6,<-hT,CY _ _ _ hx,ay hx]
theorem AG.at(h:AG Wg C n B Cl w0 bl cur bo oo ys N6 T w){i x:Nat}(hx:cur[i]?=some x):w.cell? ⟨bl,i,none⟩=some (.int .u8 ((x:Nat):Int)):=by rw[cell_of _ h.af.hx,yK,hx];rfl
theorem AG.set(h:AG Wg C n B Cl w0 bl cur bo oo ys N6 T w)(i x:Nat):AG Wg C n B Cl w0 bl (cur.set i x) bo oo ys N6 T (w.setCell ⟨bl,i,none⟩ (.int .u8 ((x:Nat):Int))):=
 ⟨h.af.set i x,sQ (w:=w) (w':=w.setCell _ _) rfl eY h.m6,h.n6,(dD _ _ _ _ h.n6).trans h.h6⟩
theorem AF.alloc(h:AF Wg C n B Cl w0 bl cur bo oo ys w)(T:aB):AG Wg C n B Cl w0 bl cur bo oo ys w.heap.size T (w.alloc (.cells T 209)):=
 ⟨h.call (h.bs.alloc _) (Ex.alloc h.bs.hC h.bs.hB (λ_ x=>h.bs.lt x) _),zY (w:=w) (w':=w.alloc _) rfl h.bs.tg (az _) iL,by have:=h.bs.lt h.ml;omega,EI w _⟩
theorem AG.row{T':aB}(h:AG Wg C n B Cl w0 bl cur bo oo ys N6 T' w)(asP:bo≠N6)(h0:Bs C B w0)(hN:w0.heap.size<=N6)(T:aB):AG Wg C n B Cl w0 bl cur bo oo ys N6 T (w.setRow N6 T):=
 ⟨⟨h.af.bs.row _ _,adk h.af.ex h0 hN _,sQ (w:=w) (w':=w.setRow _ _) rfl iW h.af.ml,h.af.neC,h.af.hB,h.af.rdo.imp (λx=>sQ (w:=w) (w':=w.setRow _ _) rfl iW x) id,
   by rw[xP];exact h.af.lto,h.af.neo,(um w _ (dU h.n6)).trans h.af.hx,λi y e=>by rw[AV w _ (by exact asP)];exact h.af.hy i y e⟩,
   sQ (w:=w) (w':=w.setRow _ _) rfl iW h.m6,h.n6,OI _ h.h6⟩
end
def DU(ys:aA)(k:Nat):Prop:=ys.length=k
def AI(Wg C n B:Nat)(Cl:Nat->Prop)(w0:ah)(bl nl cl:Nat)(xs:aA)(bs:aY)(bo oo co:Nat)(ys:aA)(N6:Nat)(T:aB)(f k:Nat)(a:Act)(w:ah):Prop:=
 ∃(m:Nat)(v3 v4 v5 v7 v8 v9 v10 v11 v12 Oh Ud Qk Ql v20 v21 v22 Ux v24 Qm v26 v27 v28 v29:ai),m<=k/\AG Wg C n B Cl w0 bl (AU f xs (ys.take m)) bo oo ys N6 T w/\a={tmps:=#[.slice (some ⟨bl,0,none⟩) nl cl,.int .u8 (f:Int),.slice bs k co,v3,v4,v5,.pointer (some ⟨N6,0,none⟩),v7,v8,v9,v10,v11,v12,.slice bs k co,.int .i64 ((k:Nat):Int),.int .i64 ((m:Nat):Int),Oh,Ud,Qk,Ql,v20,v21,v22,Ux,v24,Qm,v26,v27,v28,v29],defers:=[]}
def muA(k:Nat)(a:Act)(_:ah):Nat:=match a.tmps.getD 15 undef with| .int _ j=>k-j.toNat|_=>0
theorem adl(k:Nat):∃q,∀(w:ah)(bs:aY)(bl nl cl bo oo co f:Nat)(xs ys:aA),(0<k->bs=some ⟨bo,oo,none⟩)->f<256->(∀x∈xs,x<256)->(∀y∈ys,y<256)->DU xs nl->k<=nl->DU ys k->nl<=maxLen->AF Wg C n B Cl w bl xs bo oo ys w->
  CallsC prog main (Ro Wg C n B Cl) (Dg Wg C n B Cl) 91 #[.slice (some ⟨bl,0,none⟩) nl cl,.int .u8 (f:Int),.slice bs k co] q w λv w'=>v=.tuple #[]/\AF Wg C n B Cl w bl (AU f xs ys) bo oo ys w':=by
 obtain⟨kp,hp⟩:=adm (main:=main) (Wg:=Wg) (C:=C) (n:=n) (B:=B) (Cl:=Cl);co_apply Exists.intro;intro w bs bl nl cl bo oo co f xs ys hbs hf hxs hys Hg hle hk hmax hF;have I_:=hF.bs;co_apply callsC_of_wpC func91 aI rfl;simp only[ntmps91,fU,dJ,dY,Nat.reduceAdd,Nat.reduceSub,dR,dQ,dM,dP,dA,bT];co_apply bY qj;co_apply bY qj;co_reg qj;co_op AF.rely hF (co_quiet qj);co_op AF.rely hF (co_quiet qj);co_apply bV qj;co_then
 co_split qj ((f:Int)==0)
 .intro h0
  obtain rfl:f=0:=by have:(f:Int)=0:=by simpa using h0
                     omega
  co_apply wpC_ret qj;exact⟨rfl,_,resultsC_none aI _,rfl,by rw[X9];exact hF⟩
 .intro h0;clear h0
  co_ctl qj
  co_then;co_apply bY qj;co_reg qj;co_op AF.rely hF (co_quiet qj);co_apply adn qj rfl aI rfl
  .walk_nrm;exact hp _ _ hf hF.bs
  rintro v w' ⟨rfl,I9,hex⟩;replace hF:=hF.call I9 hex;clear I9 hex;obtain⟨T,hT,hTs,hT1⟩:∃T,zX f 256=T/\T.size=256/\∀v∈T,v.oneCell'=true:=⟨_,rfl,uP f _,Js f _⟩;simp only[hT];walk_nrm
  co_opw AF.rely hF (skip) (rw[listed_nil awl];exact zC hF.bs.hC _ rfl)
  have hlo:=hF.ex.size;have qK:=hF.lto;replace hF:=hF.alloc Tryz.zeroCells209;generalize hN6:Array.size (World.heap _)=N6 at hF hlo qK⊢;clear hN6;co_apply opsC_cons rfl aI;intro w₁ r;replace hF:=hF.rely r;clear r;have hz:Tryz.zeroCells209.size=256:=awQ;have sW:=OJ (c':=T) hF.h6 hz hTs hT1;rw[OL (v:=.agg T) rfl rfl rfl sW];simp only[uponK_skip];have asQ:N6≠C:=by have:=I_.hC;omega
  refine⟨?_,?_⟩
  .unfold listed;rw[RH (v:=.agg T) rfl rfl rfl];exact aih hF.m6 asQ (hF.af.bs.lt hF.m6) (λe he=>RJ (c':=T) hF.h6 hz hTs hT1 e (mem_seen he))
  clear sW;replace hF:=hF.row ag I_ hlo T;walk_nrm;co_apply bV qj;co_then;co_apply bY qj;co_reg qj;co_op AG.rely hF (co_quiet qj);co_op AG.rely hF (co_quiet qj);co_op AG.rely hF (co_quiet qj);co_apply bV qj;co_then;co_apply lu qj;co_apply kJ qj (AI Wg C n B Cl w bl nl cl xs bs bo oo co ys N6 T f k) (muA k) _ k
  .exact⟨0,_,_,_,_,_,_,_,_,_,_,_,_,_,_,_,_,_,_,_,_,_,_,_,gY _,by rw[lT,aaR];exact hF,rfl⟩
  .simp[muA]
  rintro a w' ⟨m,v3,v4,v5,v7,v8,v9,v10,v11,v12,Oh,Ud,Qk,Ql,v20,v21,v22,Ux,v24,Qm,v26,v27,v28,v29,hm,hF,rfl⟩;co_apply bY qj;co_reg qj;co_op AG.rely hF (co_quiet qj);co_apply bV qj;co_then;co_apply bY qj
  co_split qj (decide ((m:Int)<(k:Int)))
  .intro hml;have asR:m<k:=by have:=iZ hml;omega
   clear hml;obtain rfl:bs=some ⟨bo,oo,none⟩:=hbs ag;obtain⟨y,hy⟩:∃y,ys[m]?=some y:=⟨ys[m]'(by rw[show ys.length=k from hk];exact asR),ax⟩;obtain⟨x,hx⟩:∃x,xs[m]?=some x:=⟨xs[m]'(by rw[show xs.length=nl from Hg];omega),ax⟩;have aii:y<256:=hys y (jA hy);have alh:x<256:=hxs x (jA hx);have hcx:(AU f xs (ys.take m))[m]?=some x:=by rw[aaS f xs _ m aS];exact hx
   have hmI:(m:Int)<(k:Int):=ag;have hmN:(m:Int)<(nl:Int):=ag;have hyI:(y:Int)<256:=ag;have hmul:mul y f<256:=mul_lt aii
   co_ctl qj
   co_then;co_apply bY qj;co_apply lu qj;co_apply bY qj;co_reg qj;co_op AG.rely hF (co_quiet qj)
   co_opw AG.rely hF (skip) (co_still qj)
   co_opw AG.rely hF (have hc:=hF.af.hy m y hy) (refine ui hF.af.rdo hF.af.lto ?_;co_evs (exact⟨_,rfl,rfl⟩))
   clear hc;co_op AG.rely hF (co_quiet qj);co_op AG.rely hF (co_quiet qj);co_apply bV qj;co_then;co_apply AX (nf:=0) (S:=AG Wg C n B Cl w bl (AU f xs (ys.take m)) bo oo ys N6 T) (lst:=9) qj ae5 (by first|kernel_rfl|rfl);intro w₁ r;replace hF:=(hF.rely r).draw (w₁.drawn+1);clear r;simp only[fU,dJ,dY,Nat.reduceAdd,bM];have hix:∀(w:ah)(es:aH),(Instr.indexAt 209 (.pointer (some ⟨N6,0,none⟩)) (.int .u8 (y:Int))).events prog w es=es:=λw es=>events_indexAt_array _ _ _ _ _ _ underlying209 ⟨ag,ag⟩
   co_applyP sS qj (λ_ _ h r=>AG.rely h r) (λ_ _ _ h r=>iY qj h r) (i:=0) rfl aj aj aj aj aj (.inl ⟨aI,λ_ hw=>⟨run_eq_of ?asT,?aqL⟩⟩) hF ?auy
   case asT=>
    exact ayl
   case aqL=>
    skip
    co_quiet qj
   try walk_nrm
   co_applyP sS qj (λ_ _ h r=>AG.rely h r) (λ_ _ _ h r=>iY qj h r) (i:=1) rfl aj aj aj aj aj (.inl ⟨aI,λ_ hw=>⟨run_eq_of ?asU,?aqM⟩⟩) hF ?auz
   case asU=>
    exact ayl
   case aqM=>
    skip
    co_quiet qj
   try walk_nrm
   co_applyP sS qj (λ_ _ h r=>AG.rely h r) (λ_ _ _ h r=>iY qj h r) (i:=2) rfl aj aj aj aj aj (.inl ⟨aI,λ_ hw=>⟨run_eq_of ?asV,?aqN⟩⟩) hF ?auA
   case asV=>
    exact ayl
   case aqN=>
    skip
    co_still qj
   try walk_nrm
   co_applyP sS qj (λ_ _ h r=>AG.rely h r) (λ_ _ _ h r=>iY qj h r) (i:=3) rfl aj aj aj aj aj (.inl ⟨aI,λ_ hw=>⟨run_eq_of ?asW,?aqO⟩⟩) hF ?auB
   case asW=>
    intro K hK;have hc:=hw.at hcx;go_simp;exact hK
   case aqO=>
    have hc:=hw.at hcx;refine ui (.inl hw.af.ml) (hw.af.bs.lt hw.af.ml) ?_;co_evs (exact⟨_,rfl,rfl⟩)
   try walk_nrm
   co_applyP sS qj (λ_ _ h r=>AG.rely h r) (λ_ _ _ h r=>iY qj h r) (i:=4) rfl aj aj aj aj aj (.inl ⟨aI,λ_ hw=>⟨run_eq_of ?asX,?aqP⟩⟩) hF ?auC
   case asX=>
    exact ayl
   case aqP=>
    skip
    co_quiet qj
   try walk_nrm
   co_applyP sS qj (λ_ _ h r=>AG.rely h r) (λ_ _ _ h r=>iY qj h r) (i:=5) rfl aj aj aj aj aj (.inl ⟨aI,λ_ hw=>⟨run_eq_of ?asY,?aqQ⟩⟩) hF ?auD
   case asY=>
    exact ayl
   case aqQ=>
    skip
    co_still qj
   try walk_nrm
   co_applyP sS qj (λ_ _ h r=>AG.rely h r) (λ_ _ _ h r=>iY qj h r) (i:=6) rfl aj aj aj aj aj (.inl ⟨aI,λ_ hw=>⟨run_eq_of ?asZ,?aqR⟩⟩) hF ?auE
   case asZ=>
    intro K hK;have hc:=hw.tab hT aii;go_simp;exact hK
   case aqR=>
    have hc:=hw.tab hT aii;refine ui (.inl hw.m6) (hw.af.bs.lt hw.m6) ?_;co_evs (exact⟨_,rfl,rfl⟩)
   try walk_nrm
   co_applyP sS qj (λ_ _ h r=>AG.rely h r) (λ_ _ _ h r=>iY qj h r) (i:=7) rfl aj aj aj aj aj (.inl ⟨aI,λ_ hw=>⟨run_eq_of ?as3,?aqS⟩⟩) hF ?auF
   case as3=>
    exact ayl
   case aqS=>
    skip
    co_quiet qj
   try walk_nrm
   co_applyP sS qj (λ_ _ h r=>AG.rely h r) (λ_ _ _ h r=>iY qj h r) (i:=8) rfl aj aj aj aj aj (.inl ⟨aI,λ_ hw=>⟨run_eq_of ?as4,?aqT⟩⟩) hF ?auG
   case as4=>
    exact ayl
   case aqT=>
    skip
    co_still qj
   try walk_nrm
   co_applyP GL (i:=9) aj
   refine⟨_,rfl,.inl ⟨aI,?_⟩⟩;intro w₂ r;replace hF:=hF.rely r;clear r;refine aox ?_;intro K hK;have hc:=hF.at hcx;have hz:=wK _ hF.af.hx m;go_simp
   try(unfold stored;go_simp)
   refine hK _ _ ⟨?_,λh=>absurd rfl h,?_⟩
   .refine Qw hF.af.ml hF.af.neC (hF.af.bs.lt hF.af.ml) ?_
    co_evs (exact⟨_,_,rfl,rfl⟩)
   clear hK K hc hz;replace hF:=hF.set m (x^^^mul y f);rw[X_ f xs ys m x y hx hy,<-u8_xor_nat _ _ alh hmul]at hF;refine Le aj ?_ _;co_then;co_reg qj;co_op AG.rely hF (co_quiet qj);co_op AG.rely hF (co_quiet qj);co_apply bV qj;co_then
   have BB:IntKind.i64.wrap ((m:Int)+1)=((m+1:Nat):Int):=by
    have:nl<=9223372036854775807:=by simpa[maxLen]using hmax
    rw[fO];omega
   simp only[BB];refine⟨⟨m+1,_,_,_,_,_,_,_,_,_,_,_,_,_,_,_,_,_,_,_,_,_,_,_,ag,hF,rfl⟩,?_⟩;simp[muA];omega
  .intro hml;have Y_:m=k:=by have:=jr hml;omega
   have w_:ys.take m=ys:=jg (by rw[show ys.length=k from hk];omega)
   co_ctl qj
   co_then;exact⟨rfl,_,resultsC_none aI _,rfl,by rw[w_]at hF;exact hF.af⟩
