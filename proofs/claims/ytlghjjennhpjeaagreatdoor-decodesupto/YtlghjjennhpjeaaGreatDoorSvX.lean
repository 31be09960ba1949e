import Derived.Test.YtlghjjennhpjeaaGreatDoorSvC
import Derived.BigQuiet
import Derived.Test.YtlghjjennhpjeaaGreatDoorEnT
set_option maxHeartbeats 4000000
set_option maxRecDepth 100000
namespace Go.Proofs.Y
open Go.Proofs.Tryz
open Go.RowKit Go.Deep
theorem Tryz.aiP:(prog.info? 55).map (λi=>(i.zero,i.size,i.bytes))=some (some (.agg #[.int .i64 0,.slice none 0 0]),2,32):=ak
theorem Tryz.apr:(prog.info? 4).map (λi=>(i.zero,i.size,i.bytes))=some (some (.bool false),1,1):=ak
theorem ain{w:ah}{b o:Nat}{v:ai}(h:w.cell? ⟨b,o,none⟩=some v):b<w.heap.size:=block_lt_of_cell h
structure CL where
 L:Nat
 ix:Nat->Nat
 db:Nat->aW
 dc:Nat->Nat
def CL.d(q:CL)(i:Nat):ai:=.slice (q.db i) q.L (q.dc i)
structure CAt(w:ah)(b k:Nat)(q:CL):Prop where
 lt:b<w.heap.size
 c0:∀i,i<k->w.cell? ⟨b,i*2,none⟩=some (.int .i64 ((q.ix i:Nat):Int))
 c1:∀i,i<k->w.cell? ⟨b,i*2+1,none⟩=some (q.d i)
structure CO(w:ah)(b o n:Nat)(q:CL):Prop where
 lt:b<w.heap.size
 c0:∀i,i<n->w.cell? ⟨b,o+i*2,none⟩=some (.int .i64 ((q.ix i:Nat):Int))
 c1:∀i,i<n->w.cell? ⟨b,o+i*2+1,none⟩=some (.slice (q.db i) q.L (q.dc i))
theorem CO.below{w w':ah}{b o n B:Nat}{q:CL}(h:CO w b o n q)(hb:Below B w w')(hB:w.heap.size<=B):CO w' b o n q:=
 ⟨bH h.lt hb.size,λi hi=>(hb.cell (p:=⟨b,_,none⟩) (bH h.lt hB)).trans (h.c0 i hi),λi hi=>(hb.cell (p:=⟨b,_,none⟩) (bH h.lt hB)).trans (h.c1 i hi)⟩
def cvv(q:CL)(o:Option Nat)(p:Nat):ai:=match o with
 |some i=>if p=0 then .int .i64 ((q.ix i:Nat):Int)else q.d i
 |none=>if p=0 then .int .i64 0 else .slice none 0 0
def UD(q:CL)(fl:Nat->Option Nat)(j:Nat):ai:=cvv q (fl (j/2)) (j%2)
def IB(q:CL)(O:aC):aK:=O.flatMap λi=>[.int .i64 ((q.ix i:Nat):Int),q.d i]
theorem VL(q:CL):∀(O:aC)(m i:Nat),O[m]?=some i->(IB q O)[m*2]?=some (.int .i64 ((q.ix i:Nat):Int))/\(IB q O)[m*2+1]?=some (q.d i)
 |[],m,i,h=>by simp at h
 |x::O,0,i,h=>by simp at h;subst h;exact⟨rfl,rfl⟩
 |x::O,m+1,i,h=>by have:=VL q O m i pW;have e:IB q (x::O)=.int .i64 ((q.ix x:Nat):Int)::q.d x::IB q O:=rfl;rw[e,show(m+1)*2=m*2+1+1 by omega];simp only[jh];exact this
theorem acs(q:CL)(O:aC)(c:Nat):IB q (O++[c])=IB q O++[.int .i64 ((q.ix c:Nat):Int),q.d c]:=by simp[IB]
theorem Xb(w:ah)(x y:ai)(t:aG):∀j u,[x,y][j]?=some u->(w.alloc (.cells #[x,y] t)).cell? ((⟨w.heap.size,0,none⟩:Addr).add j)=some u:=by
 intro j u hj
 match j,hj with
 |0,hj=>
  simp at hj;subst hj;simp[Addr.add]
 |1,hj=>
  simp at hj;subst hj;simp[Addr.add]
theorem aft{w:ah}{b k p i:Nat}{q:CL}{fl:Nat->Option Nat}(h:w.rowIs b 55 (k*2) (UD q fl)):
  ((w.setCell ⟨b,p*2,none⟩ (.int .i64 ((q.ix i:Nat):Int))).setCell ⟨b,p*2+1,none⟩ (q.d i)).rowIs b 55 (k*2) (UD q λx=>if x=p then some i else fl x):=
 ((h.set (p*2) _).set (p*2+1) _).congr λj _=>by
   unfold UD;by_cases e1:j=p*2+1
   .subst e1;rw[ax rfl,show(p*2+1)/2=p by omega,show(p*2+1)%2=1 by omega];dsimp only;rw[ax rfl];rfl
   .rw[au e1];by_cases e2:j=p*2
    .subst e2;rw[ax rfl,show p*2/2=p by omega,show p*2%2=0 by omega];dsimp only;rw[ax rfl];rfl
    .rw[au e2];dsimp only;rw[au ag]
structure PM(w:ah)(k:Nat)(q:CL)(fl:Nat->Option Nat)(O:aC)(vo:ai)(w':ah):Prop where
 pl:w'.rowIs w.heap.size 55 (k*2) (UD q fl)
 fi:w'.rowIs (w.heap.size+1) 4 k (λt=>.bool (fl t).isSome)
 ot:w'.ownsRow (w.heap.size+2) 55 2 vo O.length (IB q O)
 sz:w.heap.size+2<=w'.heap.size
 be:Below w.heap.size w w'
theorem ahs(w:ah)(k:Nat)(q:CL):(w.alloc (.cells (madeCells #[.int .i64 0,.slice none 0 0] (k*2)) 55)).rowIs w.heap.size 55 (k*2) (UD q λ_=>none):=by
 have:=World.rowIs_alloc w (madeCells #[.int .i64 0,.slice none 0 0] (k*2)) 55 (UD q λ_=>none) (λi hi=>by rw[jw]at hi;have h2:i%2=0\/i%2=1:=ag;unfold madeCells UD cvv;rw[pU,Array.getElem?_range];rw[ax hi];rcases h2 with h|h<;>simp[h])
 rwa[jw]at this
theorem Xv(k:Nat)(hk:k<=128)(w:ah):(Instr.makeSlice 53 (.int .i64 (k:Int)) (.int .i64 (k:Int))).run prog w=.ok (.slice (some ⟨w.heap.size,0,none⟩) k k) (w.alloc (.cells (madeCells #[.int .i64 0,.slice none 0 0] (k*2)) 55)):=by obtain⟨i0,zo,xY,wW,vV⟩:=cO Tryz.aiP;have:=kC (P:=prog) w 53 55 i0 _ underlying53 zo xY .i64 .i64 k k ag (Int.le_refl _) jv ag;exact axA
theorem aeq(k:Nat)(hk:k<=128)(w:ah):(Instr.makeSlice 178 (.int .i64 (k:Int)) (.int .i64 (k:Int))).run prog w=.ok (.slice (some ⟨w.heap.size,0,none⟩) k k) (w.alloc (.cells (madeCells #[.bool false] k) 4)):=
 run_make_row' (P:=prog) 178 4 (.bool false) 1 underlying178 Tryz.apr rfl .i64 .i64 k ag ag w
theorem akI(w:ah)(k:Nat)(q:CL):PM w k q (λ_=>none) [] (.slice none 0 0) ((w.alloc (.cells (madeCells #[.int .i64 0,.slice none 0 0] (k*2)) 55)).alloc (.cells (madeCells #[.bool false] k) 4)):=by refine⟨(ahs w k q).alloc _,?_,bY _ _ _ _,aA,((aO _ _).alloc (ay _) _).alloc aA _⟩;have:=World.rowIs_made (w.alloc (.cells (madeCells #[.int .i64 0,.slice none 0 0] (k*2)) 55)) (.bool false) k 4;exact axb
def aht(k:Nat)(q:CL)(w:ah)(e:Ending)(w':ah):Prop:=
 ∃σ,e=.returned (.slice (some ⟨w.heap.size,0,none⟩) k k)/\FT k q.ix σ/\w'.rowIs w.heap.size 55 (k*2) (UD q λt=>some (σ t))/\Below w.heap.size w w'
theorem aik(k b o cap:Nat)(q:CL)(w:ah)(hk:k<=128)(hx:∀i,i<k->q.ix i<128)(hc:CO w b o k q)(hi:∀i j,i<k->j<k->i≠j->q.ix i≠q.ix j):
  Calls prog 74 #[.slice (some ⟨b,o,none⟩) k cap] w λe w'=>aht k q w e w':=by
 obtain⟨i0,zo,xY,wW,vV⟩:=cO Tryz.aiP;have m1:=Xv k hk w;have m2:=aeq k hk (w.alloc (.cells (madeCells #[.int .i64 0,.slice none 0 0] (k*2)) 55));have h0:=akI w k q;generalize madeCells #[.int .i64 0,.slice none 0 0] (k*2)=Z1 at m1 m2 h0;generalize madeCells #[.bool false] k=Z2 at m2 h0;go_enter func74,ntmps74;go_wp2;clear m1 m2;generalize(w.alloc (Obj.cells Z1 55)).alloc (Obj.cells Z2 4)=w0 at h0⊢
 go_loopw [5,17] (λvo vi wr=>∃c:Nat,c<=k/\vi=.int .i64 (c:Int)/\∃fl O,Pl k q.ix c fl O/\PM w k q fl O vo wr) (λ_ i _=>k-(intOf i).toNat)
 case atStart=>exact⟨0,ag,rfl,_,_,aa4 k q.ix,h0⟩
 case round=>
  clear h0;obtain⟨c,hcc,rfl,fl,O,hP,hM⟩:=hrel;by_cases qB:c<k
  .have xZ:(c:Int)<(k:Int):=ag;have hcw:=hc.below hM.be (ay _);have g0:=hcw.c0 c qB;have g1:=hcw.c1 c qB;have Jf:=hcw.lt;have hsz:=hM.sz;by_cases VX:q.ix c<k
   .have atf:((q.ix c:Nat):Int)<(k:Int):=ag;obtain⟨hn,V6⟩:=hP.own (λi YD=>hi i c ag qB ag) VX;have pl1:=hM.pl.alloc (.cells #[.int .i64 ((q.ix c:Nat):Int),.slice (q.db c) q.L (q.dc c)] 55);have fi1:=hM.fi.alloc (.cells #[.int .i64 ((q.ix c:Nat):Int),.slice (q.db c) q.L (q.dc c)] 55);have ot1:=hM.ot.alloc (.cells #[.int .i64 ((q.ix c:Nat):Int),.slice (q.db c) q.L (q.dc c)] 55);have be1:=hM.be.alloc hM.be.size (.cells #[.int .i64 ((q.ix c:Nat):Int),.slice (q.db c) q.L (q.dc c)] 55);have Ai:w.heap.size+2<=(wr.alloc (.cells #[.int .i64 ((q.ix c:Nat):Int),.slice (q.db c) q.L (q.dc c)] 55)).heap.size:=aJ
    have n0:(wr.alloc (.cells #[.int .i64 ((q.ix c:Nat):Int),.slice (q.db c) q.L (q.dc c)] 55)).rowIs wr.heap.size 55 2 (λj=>if j=0 then .int .i64 ((q.ix c:Nat):Int)else .slice (q.db c) q.L (q.dc c)):=
     World.rowIs_alloc wr #[.int .i64 ((q.ix c:Nat):Int),.slice (q.db c) q.L (q.dc c)] 55 _ (λi hi=>by have:i=0\/i=1:=nT;rcases this with rfl|rfl<;>rfl)
    generalize hW1:wr.alloc (.cells #[.int .i64 ((q.ix c:Nat):Int),.slice (q.db c) q.L (q.dc c)] 55)=W1 at pl1 fi1 ot1 be1 Ai n0;have a0:=n0.cell (i:=0) ag;have a1:=n0.cell (i:=1) ag;have af0:=n0.frozen 0;have af1:=n0.frozen 1;simp only[aY,ng,bU]at a0 a1;have p0:=pl1.cell (i:=q.ix c*2) ag;have pf0:=pl1.frozen (q.ix c*2);have hne:wr.heap.size≠w.heap.size:=ag;have pl3:=aft (p:=q.ix c) (i:=c) pl1;unfold CL.d at pl3;have p1:=(pl1.set (q.ix c*2) (.int .i64 ((q.ix c:Nat):Int))).cell (i:=q.ix c*2+1) ag;have pf1:=(pl1.set (q.ix c*2) (.int .i64 ((q.ix c:Nat):Int))).frozen (q.ix c*2+1);have fi2:=fi1.setOther (a:=⟨w.heap.size,q.ix c*2,none⟩) aui (.int .i64 ((q.ix c:Nat):Int));have n2:=n0.setOther (a:=⟨w.heap.size,q.ix c*2,none⟩) hne (.int .i64 ((q.ix c:Nat):Int));have ot2:=dR ot1 (a:=⟨w.heap.size,q.ix c*2,none⟩) awp (.int .i64 ((q.ix c:Nat):Int));have be2:=be1.setCell (p:=⟨w.heap.size,q.ix c*2,none⟩) (ay _) (.int .i64 ((q.ix c:Nat):Int));have Gn:w.heap.size+2<=(W1.setCell ⟨w.heap.size,q.ix c*2,none⟩ (.int .i64 ((q.ix c:Nat):Int))).heap.size:=by simpa using Ai
    generalize TN:W1.setCell ⟨w.heap.size,q.ix c*2,none⟩ (.int .i64 ((q.ix c:Nat):Int))=W2 at pl3 p1 pf1 fi2 n2 ot2 be2 Gn;have fi3:=fi2.setOther (a:=⟨w.heap.size,q.ix c*2+1,none⟩) aui (.slice (q.db c) q.L (q.dc c));have n3:=n2.setOther (a:=⟨w.heap.size,q.ix c*2+1,none⟩) hne (.slice (q.db c) q.L (q.dc c));have ot3:=dR ot2 (a:=⟨w.heap.size,q.ix c*2+1,none⟩) awp (.slice (q.db c) q.L (q.dc c));have be3:=be2.setCell (p:=⟨w.heap.size,q.ix c*2+1,none⟩) (ay _) (.slice (q.db c) q.L (q.dc c));have zM:w.heap.size+2<=(W2.setCell ⟨w.heap.size,q.ix c*2+1,none⟩ (.slice (q.db c) q.L (q.dc c))).heap.size:=by simpa using Gn
    generalize hW3:W2.setCell ⟨w.heap.size,q.ix c*2+1,none⟩ (.slice (q.db c) q.L (q.dc c))=W3 at pl3 fi3 n3 ot3 be3 zM;have b0:=n3.cell (i:=0) ag;simp only[aY]at b0;have f0:=fi3.cell VX;have ff0:=fi3.frozen (q.ix c);rw[hn]at f0
    have fi4:=(fi3.set (q.ix c) (.bool true)).congr (g:=λt=>.bool (if t=q.ix c then some c else fl t).isSome) (λt _=>by
     by_cases e:t=q.ix c
     .rw[ax e];simp[e]
     .rw[au e];simp[e])
    have pl4:=pl3.setOther (a:=⟨w.heap.size+1,q.ix c,none⟩) avh (.bool true);have ot4:=dR ot3 (a:=⟨w.heap.size+1,q.ix c,none⟩) (by show w.heap.size+1<w.heap.size+2;omega) (.bool true);have be4:=be3.setCell (p:=⟨w.heap.size+1,q.ix c,none⟩) avi (.bool true);have Yw:w.heap.size+2<=(W3.setCell ⟨w.heap.size+1,q.ix c,none⟩ (.bool true)).heap.size:=by simpa using zM
    have hPM:PM w k q (λx=>if x=q.ix c then some c else fl x) O u5 (W3.setCell ⟨w.heap.size+1,q.ix c,none⟩ (.bool true)):=⟨pl4,fi4,ot4,Yw,be4⟩;clear pl1 fi1 ot1 be1 Ai n0 fi2 n2 ot2 be2 Gn pl3 fi3 n3 ot3 be3 zM fi4 pl4 ot4 be4 Yw hM hP hcw;generalize q.ix c=x at*;generalize UD q fl (x*2)=y0 at p0;generalize TR:(if x*2+1=x*2 then Value.int .i64 ((x:Nat):Int)else UD q fl (x*2+1))=y1 at p1;clear TR;go_wp2
    go_roundw
    case rel=>exact⟨c+1,ag,aV,_,_,V6,hPM⟩
    case measure=>simp[intOf];omega
   .have atf:¬(((q.ix c:Nat):Int)<(k:Int)):=ag;have V6:=hP.other (show k<=q.ix c by omega)
    have hOl:O.length<=c:=by
     have h1:=hP.cnt;have h2:=akB fl (iH k)
     have:un fl k<=k:=by
      have:∀t,un fl t<=t:=λt=>by
       induction t with
       |zero=>exact ay _
       |succ t ih=>rw[un];have:e1 (fl t)<=1:=by{cases fl t<;>simp[e1]};omega
      exact this k
     omega
    have pl1:=(hM.pl.alloc (.cells #[.int .i64 ((q.ix c:Nat):Int),.slice (q.db c) q.L (q.dc c)] 55)).alloc (.cells #[.int .i64 ((q.ix c:Nat):Int),.slice (q.db c) q.L (q.dc c)] 55);have fi1:=(hM.fi.alloc (.cells #[.int .i64 ((q.ix c:Nat):Int),.slice (q.db c) q.L (q.dc c)] 55)).alloc (.cells #[.int .i64 ((q.ix c:Nat):Int),.slice (q.db c) q.L (q.dc c)] 55);have ot1:=(hM.ot.alloc (.cells #[.int .i64 ((q.ix c:Nat):Int),.slice (q.db c) q.L (q.dc c)] 55)).alloc (.cells #[.int .i64 ((q.ix c:Nat):Int),.slice (q.db c) q.L (q.dc c)] 55);have be1:=(hM.be.alloc hM.be.size (.cells #[.int .i64 ((q.ix c:Nat):Int),.slice (q.db c) q.L (q.dc c)] 55)).alloc (by have:=hM.be.size;simp;omega) (.cells #[.int .i64 ((q.ix c:Nat):Int),.slice (q.db c) q.L (q.dc c)] 55);have Ai:w.heap.size+2<=((wr.alloc (.cells #[.int .i64 ((q.ix c:Nat):Int),.slice (q.db c) q.L (q.dc c)] 55)).alloc (.cells #[.int .i64 ((q.ix c:Nat):Int),.slice (q.db c) q.L (q.dc c)] 55)).heap.size:=aJ;have FK:=Xb (wr.alloc (.cells #[.int .i64 ((q.ix c:Nat):Int),.slice (q.db c) q.L (q.dc c)] 55)) (.int .i64 ((q.ix c:Nat):Int)) (.slice (q.db c) q.L (q.dc c)) 55;have esz:(wr.alloc (.cells #[.int .i64 ((q.ix c:Nat):Int),.slice (q.db c) q.L (q.dc c)] 55)).heap.size=wr.heap.size+1:=aA;rw[esz]at FK
    have arz:∀u∈[Value.int .i64 ((q.ix c:Nat):Int),Value.slice (q.db c) q.L (q.dc c)],u.oneCell'=true:=by exact axC
    go_wp2_with(at_builtin;refine di _ rfl _ _ 53 rfl (w.heap.size+2) 55 i0 (.agg #[.int .i64 0,.slice none 0 0]) 2 32 underlying53 zo xY wW vV rfl aB _ _ _ rfl ot1 ⟨wr.heap.size+1,0,none⟩ 1 1 [.int .i64 ((q.ix c:Nat):Int),.slice (q.db c) q.L (q.dc c)] rfl rfl FK arz bT ag Ai ?_;intro v' w1 tZ qA _)
    have ot2:w1.ownsRow (w.heap.size+2) 55 2 v' (O++[c]).length (IB q (O++[c])):=by rw[acs,bM];exact tZ
    have vU:=λj hj=>(ot1.lt j hj).1
    have Ag:∀j,j<w.heap.size+2->w1.heap[j]?=((wr.alloc (.cells #[.int .i64 ((q.ix c:Nat):Int),.slice (q.db c) q.L (q.dc c)] 55)).alloc (.cells #[.int .i64 ((q.ix c:Nat):Int),.slice (q.db c) q.L (q.dc c)] 55)).heap[j]?:=λj hj=>qA.block j ag (λe=>by have:=vU j e.symm;omega)
    have hPM:PM w k q fl (O++[c]) v' w1:=⟨pl1.of_block (Ag _ ag),fi1.of_block (Ag _ ag),ot2,bF Ai qA.size,be1.grown qA ag (λj hj=>by have:=vU j hj;omega)⟩;clear pl1 fi1 ot1 be1 tZ qA ot2 Ag;go_wp2
    go_roundw
    case rel=>exact⟨c+1,ag,aV,_,_,V6,hPM⟩
    case measure=>simp[intOf];omega
  .obtain rfl:c=k:=ag;have E5:¬((c:Int)<(c:Int)):=ag;have hpd:=hP.akV hi
   obtain⟨ad,ahE,g,rfl,LP,had,Ko,hgc⟩:∃ad ahE g,u5=.slice ad O.length ahE/\O.length<=ahE/\(0<O.length->ad=some ⟨g,0*2,none⟩)/\w.heap.size+2<=g/\∀m i,O[m]?=some i->wr.cell? ⟨g,m*2,none⟩=some (.int .i64 ((q.ix i:Nat):Int))/\wr.cell? ⟨g,m*2+1,none⟩=some (q.d i):=by
    rcases hM.ot.2 with⟨h1,h2⟩|⟨g,ahE,cur,h1,h2,h3,h4,h5,h6,h7⟩
    .refine⟨none,0,w.heap.size+2,?_,ag,λh=>absurd h ag,ay _,λm i hm=>?_⟩
     .rw[h2];exact h1
     .have:=(fB.1 hm).1;omega
    .refine⟨_,ahE,g,h1,ag,λ_=>rfl,h2,λm i hm=>?_⟩;have hml:=(fB.1 hm).1;have ho:=hM.ot;rw[h1]at ho;obtain⟨o1,o2⟩:=VL q O m i hm;exact⟨by rw[ho.cellAt (m*2) ag];exact o1,by rw[ho.cellAt (m*2+1) ag];exact o2⟩
   have anO:=λt=>hP.room (t:=t)
   have hP1:=hP;clear hP;have pl0:wr.rowIs w.heap.size 55 (c*2) (UD q λx=>if x<0 then some (sg fl O x)else fl x):=hM.pl.congr λj _=>by simp[UD]
   have fi0:=hM.fi;have be0:=hM.be;have hsz:=hM.sz;clear hM;go_wp2
   go_loopw [5,42] (λvo vi wq=>∃t:Nat,t<=c/\vi=.int .i64 (t:Int)/\(∃ad c',vo=.slice ad (O.length-un fl t) c'/\O.length-un fl t<=c'/\(un fl t<O.length->ad=some ⟨g,un fl t*2,none⟩))/\wq.rowIs w.heap.size 55 (c*2) (UD q λx=>if x<t then some (sg fl O x)else fl x)/\wq.rowIs (w.heap.size+1) 4 c (λt=>.bool (fl t).isSome)/\Below w.heap.size w wq/\(∀m i,O[m]?=some i->wq.cell? ⟨g,m*2,none⟩=some (.int .i64 ((q.ix i:Nat):Int))/\wq.cell? ⟨g,m*2+1,none⟩=some (q.d i))) (λ_ i _=>c-(intOf i).toNat)
   case atStart=>exact⟨0,ag,rfl,⟨ad,ahE,rfl,LP,had⟩,pl0,fi0,be0,hgc⟩
   case round=>
    clear pl0 fi0 be0 hgc had LP;obtain⟨t,ht,rfl,⟨ad,c',rfl,V3,had⟩,uD,hfi,RV,hgc⟩:=hrel;by_cases Ku:t<c
    .have anq:(t:Int)<(c:Int):=ag;have f0:=hfi.cell Ku;cases hf:fl t with
     |some i=>
      rw[hf]at f0;have f0':wr.cell? ⟨w.heap.size+1,t,none⟩=some (.bool true):=f0;clear f0;have hun:un fl (t+1)=un fl t:=by rw[un,hf];rfl
      have apR:wr.rowIs w.heap.size 55 (c*2) (UD q λx=>if x<t+1 then some (sg fl O x)else fl x):=uD.congr λj _=>by
       simp only[UD];by_cases e:j/2=t
       .rw[e,au ag,ax ag,hf];simp only[sg,hf]
       .by_cases e2:j/2<t
        .rw[ax e2,ax ag]
        .rw[au e2,au ag]
      rw[<-hun]at V3 had⊢;go_wp2
      go_roundw
      case rel=>exact⟨t+1,ag,aV,⟨ad,c',rfl,V3,had⟩,apR,hfi,RV,hgc⟩
      case measure=>simp[intOf];omega
     |none=>
      rw[hf]at f0;have f0':wr.cell? ⟨w.heap.size+1,t,none⟩=some (.bool false):=f0;clear f0;have hm:=anO t Ku hf;have asA:=had hm;subst asA;clear had;have hun:un fl (t+1)=un fl t+1:=by rw[un,hf];rfl
      have hsg:O[un fl t]?=some (sg fl O t):=by simp only[sg,hf];rw[bG,bQ hm];rfl
      obtain⟨g0,g1⟩:=hgc _ _ hsg;have p0:=uD.cell (i:=t*2) ag;have pf0:=uD.frozen (t*2);have p1:=(uD.set (t*2) (.int .i64 ((q.ix (sg fl O t):Nat):Int))).cell (i:=t*2+1) ag;have pf1:=(uD.set (t*2) (.int .i64 ((q.ix (sg fl O t):Nat):Int))).frozen (t*2+1)
      have apR:=(aft (p:=t) (i:=sg fl O t) uD).congr (g:=UD q λx=>if x<t+1 then some (sg fl O x)else fl x) λj _=>by
       simp only[UD];by_cases e:j/2=t
       .rw[e,ax rfl,ax ag]
       .rw[au e];by_cases e2:j/2<t
        .rw[ax e2,ax ag]
        .rw[au e2,au ag]
      have asB:=(hfi.setOther (a:=⟨w.heap.size,t*2,none⟩) aui (.int .i64 ((q.ix (sg fl O t):Nat):Int))).setOther (a:=⟨w.heap.size,t*2+1,none⟩) aui (q.d (sg fl O t));have asC:=(RV.setCell (p:=⟨w.heap.size,t*2,none⟩) (ay _) (.int .i64 ((q.ix (sg fl O t):Nat):Int))).setCell (p:=⟨w.heap.size,t*2+1,none⟩) (ay _) (q.d (sg fl O t))
      have asD:∀m i,O[m]?=some i->((wr.setCell ⟨w.heap.size,t*2,none⟩ (.int .i64 ((q.ix (sg fl O t):Nat):Int))).setCell ⟨w.heap.size,t*2+1,none⟩ (q.d (sg fl O t))).cell? ⟨g,m*2,none⟩=some (.int .i64 ((q.ix i:Nat):Int))/\((wr.setCell ⟨w.heap.size,t*2,none⟩ (.int .i64 ((q.ix (sg fl O t):Nat):Int))).setCell ⟨w.heap.size,t*2+1,none⟩ (q.d (sg fl O t))).cell? ⟨g,m*2+1,none⟩=some (q.d i):=λm i hm=>by
       have e:((wr.setCell ⟨w.heap.size,t*2,none⟩ (.int .i64 ((q.ix (sg fl O t):Nat):Int))).setCell ⟨w.heap.size,t*2+1,none⟩ (q.d (sg fl O t))).heap[g]?=wr.heap[g]?:=by rw[lL _ _ _ _ (by show g≠w.heap.size;omega),lL _ _ _ _ (by show g≠w.heap.size;omega)]
       exact⟨(oH (a:=⟨g,m*2,none⟩) e).trans (hgc m i hm).1,(oH (a:=⟨g,m*2+1,none⟩) e).trans (hgc m i hm).2⟩
      have hlen:∃r,O.length-un fl t=r+1/\O.length-un fl (t+1)=r:=⟨O.length-un fl (t+1),ag,rfl⟩;obtain⟨r,EO,hr2⟩:=hlen;rw[EO]at V3⊢;clear hgc hsg uD hfi RV anO hP1 hpd hi;simp only[CL.d]at*;generalize sg fl O t=z at*;generalize q.ix z=x at*;generalize hy0:UD q (λx=>if x<t then some (sg fl O x)else fl x) (t*2)=y0 at p0;generalize TR:(if t*2+1=t*2 then Value.int .i64 ((x:Nat):Int)else UD q (λx=>if x<t then some (sg fl O x)else fl x) (t*2+1))=y1 at p1;clear hy0 TR;go_wp2
      go_roundw
      case rel=>
       refine⟨t+1,ag,aV,⟨_,c'-1,by rw[hr2],ag,λh=>?_⟩,apR,asB,asC,asD⟩;rw[au ag,hun,show(un fl t+1)*2=un fl t*2+2 by omega]
      case measure=>simp[intOf];omega
    .obtain rfl:t=c:=ag;have E5:¬((t:Int)<(t:Int)):=ag;go_wp2;go_ret;exact⟨sg fl O,rfl,hpd,uD.congr λj hj=>by simp only[UD];rw[ax ag],RV⟩
end Go.Proofs.Y
namespace Go.Proofs.Y
open Go.Proofs.Tryz
open Go.Conc Go.RowKit Go.Gh
open Go.ConcR (Payload)
def tK(xs:aC):aH:=(xs.map λx=>(Value.int .u8 ((x:Nat):Int))).toArray
theorem yz(xs:aC)(i:Nat):(tK xs)[i]?=(xs[i]?).map λx=>Value.int .u8 ((x:Nat):Int):=by simp[tK]
theorem Ul(xs:aC)(i x:Nat):(tK xs).setIfInBounds i (.int .u8 ((x:Nat):Int))=tK (xs.set i x):=by simp[tK,List.map_set]
def AY(f:Nat):aC->aC->aC
 |x::xs,y::ys=>(x^^^mul y f)::AY f xs ys
 |xs,_=>xs
theorem acu(f:Nat)(xs:aC):AY f xs []=xs:=by cases xs<;>rfl
theorem RP(f:Nat):∀xs ys:aC,(AY f xs ys).length=xs.length
 |[],_=>by simp[AY]
 |_::_,[]=>by simp[AY]
 |x::xs,y::ys=>by simp[AY,RP f xs ys]
theorem Yt:∀xs ys:aC,AY 0 xs ys=xs
 |[],_=>rfl
 |_::_,[]=>rfl
 |x::xs,y::ys=>by simp[AY,Yt xs ys,mul_zero]
theorem acv(f:Nat):∀(xs ys:aC)(i:Nat),ys.length<=i->(AY f xs ys)[i]?=xs[i]?
 |[],_,_,_=>by simp[AY]
 |_::_,[],_,_=>by simp[AY]
 |x::xs,y::ys,0,h=>by simp at h
 |x::xs,y::ys,i+1,h=>by simp[AY,acv f xs ys i pW]
theorem Yu(f:Nat):∀(xs ys:aC)(m x y:Nat),xs[m]?=some x->ys[m]?=some y->(AY f xs (ys.take m)).set m (x^^^mul y f)=AY f xs (ys.take (m+1))
 |[],_,_,_,_,h,_=>by simp at h
 |_::_,[],_,_,_,_,h=>by simp at h
 |a::xs,b::ys,0,x,y,h1,h2=>by simp at h1 h2;subst h1;subst h2;simp[AY,acu]
 |a::xs,b::ys,m+1,x,y,h1,h2=>by simp[AY];simpa using Yu f xs ys m x y iD jE
theorem afu(f:Nat)(hf:f<256):∀xs ys:aC,(∀x∈xs,x<256)->(∀y∈ys,y<256)->∀z∈AY f xs ys,z<256
 |[],_,_,_=>by simp[AY]
 |_::_,[],h,_=>by simpa[AY]using h
 |x::xs,y::ys,h1,h2=>by
  intro z hz;simp only[AY,dK]at hz;rcases hz with rfl|hz
  .exact CV (h1 x aA) (mul_lt (h2 y aA))
  .exact afu f hf xs ys (λa ha=>h1 a (by simp[ha])) (λa ha=>h2 a (by simp[ha])) z hz
theorem aps{o:Oper}{a:Act}{X:Act->ah->Prop}{r:Result Next}(h:∀K:Act->ah->Prop,(∀a' w',X a' w'->K a' w')->uponK o a K r):uponK o a X r:=h X λ_ _ x=>x
section
variable [Payload][qR]{main:Bool}{Wg C n B:Nat}{Cl:Nat->Prop}
structure AF(Wg C n B:Nat)(Cl:Nat->Prop)(w0:ah)(bl:Nat)(cur:aC)(bo oo:Nat)(ys:aC)(w:ah):Prop where
 bs:Bs C B w
 ex:Ex Wg C n B Cl (· =bl) w0 w
 ml:qQ w bl
 neC:bl≠C
 hB:B<=bl
 rdo:Sj Wg C B w bo
 lto:bo<w.heap.size
 neo:bo≠bl
 hx:w.heap[bl]?=some (.cells (tK cur) 5)
 hy:∀i y,ys[i]?=some y->w.cell? ⟨bo,oo+i,none⟩=some (.int .u8 ((y:Nat):Int))
section
variable {w0 w w₁:ah}{bl bo oo:Nat}{cur ys:aC}
theorem AF.call(h:AF Wg C n B Cl w0 bl cur bo oo ys w)(hb:Bs C B w₁)(r:Ex Wg C n B Cl (λ_=>False) w w₁):AF Wg C n B Cl w0 bl cur bo oo ys w₁:=
 ⟨hb,h.ex.trans (r.weaken λ_=>False.elim),r.own _ h.ml,h.neC,h.hB,r.rdb h.rdo,bH h.lto r.size,h.neo,(r.mine _ h.ml id).trans h.hx,λi y e=>by rw[<-h.hy i y e];simp only[World.cell?,r.stands h.rdo id]⟩
theorem AF.rely(h:AF Wg C n B Cl w0 bl cur bo oo ys w)(r:Ro Wg C n B Cl w w₁):AF Wg C n B Cl w0 bl cur bo oo ys w₁:=h.call (h.bs.rely r) r.ex
theorem AF.set(h:AF Wg C n B Cl w0 bl cur bo oo ys w)(i x:Nat):AF Wg C n B Cl w0 bl (cur.set i x) bo oo ys (w.setCell ⟨bl,i,none⟩ (.int .u8 ((x:Nat):Int))):=
 ⟨h.bs.set _ _,h.ex.trans (Ex.set h.neC rfl (λhh=>by have:=h.hB;dsimp only at hh;omega)),sD (w:=w) (w':=w.setCell _ _) rfl eY h.ml,h.neC,h.hB,
  h.rdo.imp (λx=>sD (w:=w) (w':=w.setCell _ _) rfl eY x) id,by rw[sW];exact h.lto,h.neo,by rw[heap_set w h.hx,Ul],λi y e=>by
  rw[oG _ _ _ _ (by intro e;injection e with e1;exact h.neo e1.symm)];exact h.hy i y e⟩
end
structure AG(Wg C n B:Nat)(Cl:Nat->Prop)(w0:ah)(bl:Nat)(cur:aC)(bo oo:Nat)(ys:aC)(N6:Nat)(T:aH)(w:ah):Prop where
 af:AF Wg C n B Cl w0 bl cur bo oo ys w
 m6:qQ w N6
 n6:N6≠bl
 h6:w.heap[N6]?=some (.cells T 197)
section
variable {w0 w w₁:ah}{bl bo oo N6:Nat}{T:aH}{cur ys:aC}
theorem AG.rely(h:AG Wg C n B Cl w0 bl cur bo oo ys N6 T w)(r:Ro Wg C n B Cl w w₁):AG Wg C n B Cl w0 bl cur bo oo ys N6 T w₁:=⟨h.af.rely r,(r.yx _).2 h.m6,h.n6,(r.mine _ h.m6).trans h.h6⟩
theorem AG.draw(h:AG Wg C n B Cl w0 bl cur bo oo ys N6 T w)(d:Nat):AG Wg C n B Cl w0 bl cur bo oo ys N6 T {w with drawn:=d}:=
 ⟨⟨⟨h.af.bs.tg,h.af.bs.hC,h.af.bs.hB,h.af.bs.ow⟩,⟨h.af.ex.size,h.af.ex.tape,h.af.ex.os,h.af.ex.tag,h.af.ex.own,h.af.ex.mine,h.af.ex.low,h.af.ex.cell,h.af.ex.pay⟩,h.af.ml,h.af.neC,h.af.hB,h.af.rdo,h.af.lto,h.af.neo,h.af.hx,h.af.hy⟩,h.m6,h.n6,h.h6⟩
theorem AG.tab{f:Nat}(hT:zQ f 256=T)(h:AG Wg C n B Cl w0 bl cur bo oo ys N6 T w){x:Nat}(hx:x<256):w.cell? ⟨N6,x,none⟩=some (.int .u8 ((mul x f:Nat):Int)):=by rw[cell_of _ h.h6,<-hT,BZ _ _ _ hx,ax hx]
theorem AG.at(h:AG Wg C n B Cl w0 bl cur bo oo ys N6 T w){i x:Nat}(hx:cur[i]?=some x):w.cell? ⟨bl,i,none⟩=some (.int .u8 ((x:Nat):Int)):=by rw[cell_of _ h.af.hx,yz,hx];rfl
theorem AG.set(h:AG Wg C n B Cl w0 bl cur bo oo ys N6 T w)(i x:Nat):AG Wg C n B Cl w0 bl (cur.set i x) bo oo ys N6 T (w.setCell ⟨bl,i,none⟩ (.int .u8 ((x:Nat):Int))):=
 ⟨h.af.set i x,sD (w:=w) (w':=w.setCell _ _) rfl eY h.m6,h.n6,(dA _ _ _ _ h.n6).trans h.h6⟩
theorem AF.alloc(h:AF Wg C n B Cl w0 bl cur bo oo ys w)(T:aH):AG Wg C n B Cl w0 bl cur bo oo ys w.heap.size T (w.alloc (.cells T 197)):=
 ⟨h.call (h.bs.alloc _) (Ex.alloc h.bs.hC h.bs.hB (λ_ x=>h.bs.lt x) _),zO (w:=w) (w':=w.alloc _) rfl h.bs.tg (ay _) iE,by have:=h.bs.lt h.ml;omega,Ed w _⟩
theorem AG.row{T':aH}(h:AG Wg C n B Cl w0 bl cur bo oo ys N6 T' w)(asE:bo≠N6)(h0:Bs C B w0)(hN:w0.heap.size<=N6)(T:aH):AG Wg C n B Cl w0 bl cur bo oo ys N6 T (w.setRow N6 T):=
 ⟨⟨h.af.bs.row _ _,acS h.af.ex h0 hN _,sD (w:=w) (w':=w.setRow _ _) rfl iR h.af.ml,h.af.neC,h.af.hB,h.af.rdo.imp (λx=>sD (w:=w) (w':=w.setRow _ _) rfl iR x) id,
   by rw[xu];exact h.af.lto,h.af.neo,(ui w _ (dE h.n6)).trans h.af.hx,λi y e=>by rw[Ak w _ (by exact asE)];exact h.af.hy i y e⟩,
   sD (w:=w) (w':=w.setRow _ _) rfl iR h.m6,h.n6,Ov _ h.h6⟩
end
def Dc(ys:aC)(k:Nat):Prop:=ys.length=k
def AI(Wg C n B:Nat)(Cl:Nat->Prop)(w0:ah)(bl nl cl:Nat)(xs:aC)(bs:aW)(bo oo co:Nat)(ys:aC)(N6:Nat)(T:aH)(f k:Nat)(a:Act)(w:ah):Prop:=
 ∃(m:Nat)(v3 v4 v5 v7 v8 v9 v10 v11 v12 S_ Tc PS PU v20 v21 v22 TK v24 TL v26 ZZ v28 v29:ai),m<=k/\AG Wg C n B Cl w0 bl (AY f xs (ys.take m)) bo oo ys N6 T w/\a={tmps:=#[.slice (some ⟨bl,0,none⟩) nl cl,.int .u8 (f:Int),.slice bs k co,v3,v4,v5,.pointer (some ⟨N6,0,none⟩),v7,v8,v9,v10,v11,v12,.slice bs k co,.int .i64 ((k:Nat):Int),.int .i64 ((m:Nat):Int),S_,Tc,PS,PU,v20,v21,v22,TK,v24,TL,v26,ZZ,v28,v29],defers:=[]}
def muA(k:Nat)(a:Act)(_:ah):Nat:=match a.tmps.getD 15 undef with| .int _ j=>k-j.toNat|_=>0
theorem aer(k:Nat):∃q,∀(w:ah)(bs:aW)(bl nl cl bo oo co f:Nat)(xs ys:aC),(0<k->bs=some ⟨bo,oo,none⟩)->f<256->(∀x∈xs,x<256)->(∀y∈ys,y<256)->Dc xs nl->k<=nl->Dc ys k->nl<=maxLen->AF Wg C n B Cl w bl xs bo oo ys w->
  CallsC prog main (Ro Wg C n B Cl) (Dg Wg C n B Cl) 110 #[.slice (some ⟨bl,0,none⟩) nl cl,.int .u8 (f:Int),.slice bs k co] q w λv w'=>v=.tuple #[]/\AF Wg C n B Cl w bl (AY f xs ys) bo oo ys w':=by
 obtain⟨kp,hp⟩:=ael (main:=main) (Wg:=Wg) (C:=C) (n:=n) (B:=B) (Cl:=Cl);co_apply Exists.intro;intro w bs bl nl cl bo oo co f xs ys BR hf CQ hys E5 hle hk hmax hF;have CU:=hF.bs;co_apply callsC_of_wpC func110 aF rfl;simp only[ntmps110,fH,dQ,d_,Nat.reduceAdd,Nat.reduceSub,eU,eQ,eH,eP,dw,df];co_apply cu qj;co_apply cu qj;co_reg qj;co_op AF.rely hF (co_quiet qj);co_op AF.rely hF (co_quiet qj);co_apply b_ qj;co_then
 co_split qj ((f:Int)==0)
 .intro h0
  obtain rfl:f=0:=by have:(f:Int)=0:=by simpa using h0
                     omega
  co_apply wpC_ret qj;exact⟨rfl,_,resultsC_none aF _,rfl,by rw[Yt];exact hF⟩
 .intro h0;clear h0
  co_ctl qj
  co_then;co_apply cu qj;co_reg qj;co_op AF.rely hF (co_quiet qj);co_apply acP qj rfl aF rfl
  .walk_nrm;exact hp _ _ hf hF.bs
  rintro v w' ⟨rfl,A8,hex⟩;replace hF:=hF.call A8 hex;clear A8 hex;obtain⟨T,hT,hTs,hT1⟩:∃T,zQ f 256=T/\T.size=256/\∀v∈T,v.oneCell'=true:=⟨_,rfl,uP f _,J8 f _⟩;simp only[hT];walk_nrm
  co_opw AF.rely hF (skip) (rw[listed_nil avc];exact zx hF.bs.hC _ rfl)
  have hlo:=hF.ex.size;have qB:=hF.lto;replace hF:=hF.alloc Tryz.zeroCells197;generalize hN6:Array.size (World.heap _)=N6 at hF hlo qB⊢;clear hN6;co_apply opsC_cons rfl aF;intro w₁ r;replace hF:=hF.rely r;clear r;have hz:Tryz.zeroCells197.size=256:=avE;have r_:=Ou (c':=T) hF.h6 hz hTs hT1;rw[Ot (v:=.agg T) rfl rfl rfl r_];simp only[uponK_skip];have asF:N6≠C:=by have:=CU.hC;omega
  refine⟨?_,?_⟩
  .unfold listed;rw[QR (v:=.agg T) rfl rfl rfl];exact ahV hF.m6 asF (hF.af.bs.lt hF.m6) (λe he=>QS (c':=T) hF.h6 hz hTs hT1 e (mem_seen he))
  clear r_;replace hF:=hF.row ag CU hlo T;walk_nrm;co_apply b_ qj;co_then;co_apply cu qj;co_reg qj;co_op AG.rely hF (co_quiet qj);co_op AG.rely hF (co_quiet qj);co_op AG.rely hF (co_quiet qj);co_apply b_ qj;co_then;co_apply lI qj;co_apply ku qj (AI Wg C n B Cl w bl nl cl xs bs bo oo co ys N6 T f k) (muA k) _ k
  .exact⟨0,_,_,_,_,_,_,_,_,_,_,_,_,_,_,_,_,_,_,_,_,_,_,_,iH _,by rw[gG,acu];exact hF,rfl⟩
  .simp[muA]
  rintro a w' ⟨m,v3,v4,v5,v7,v8,v9,v10,v11,v12,S_,Tc,PS,PU,v20,v21,v22,TK,v24,TL,v26,ZZ,v28,v29,hm,hF,rfl⟩;co_apply cu qj;co_reg qj;co_op AG.rely hF (co_quiet qj);co_apply b_ qj;co_then;co_apply cu qj
  co_split qj (decide ((m:Int)<(k:Int)))
  .intro hml;have asG:m<k:=by have:=fK hml;omega
   clear hml;obtain rfl:bs=some ⟨bo,oo,none⟩:=BR ag;obtain⟨y,hy⟩:∃y,ys[m]?=some y:=⟨ys[m]'(by rw[show ys.length=k from hk];exact asG),aA⟩;obtain⟨x,hx⟩:∃x,xs[m]?=some x:=⟨xs[m]'(by rw[show xs.length=nl from E5];omega),aA⟩;have akJ:y<256:=hys y (jO hy);have ak8:x<256:=CQ x (jO hx);have hcx:(AY f xs (ys.take m))[m]?=some x:=by rw[acv f xs _ m aJ];exact hx
   have hmI:(m:Int)<(k:Int):=ag;have hmN:(m:Int)<(nl:Int):=ag;have hyI:(y:Int)<256:=ag;have hmul:mul y f<256:=mul_lt akJ
   co_ctl qj
   co_then;co_apply cu qj;co_apply lI qj;co_apply cu qj;co_reg qj;co_op AG.rely hF (co_quiet qj)
   co_opw AG.rely hF (skip) (co_still qj)
   co_opw AG.rely hF (have hc:=hF.af.hy m y hy) (refine tH hF.af.rdo hF.af.lto ?_;co_evs (exact⟨_,rfl,rfl⟩))
   clear hc;co_op AG.rely hF (co_quiet qj);co_op AG.rely hF (co_quiet qj);co_apply b_ qj;co_then;co_apply Aj (nf:=0) (S:=AG Wg C n B Cl w bl (AY f xs (ys.take m)) bo oo ys N6 T) (lst:=9) qj aeI (by first|kernel_rfl|rfl);intro w₁ r;replace hF:=(hF.rely r).draw (w₁.drawn+1);clear r;simp only[fH,dQ,d_,Nat.reduceAdd,bJ];have VX:∀(w:ah)(es:aN),(Instr.indexAt 197 (.pointer (some ⟨N6,0,none⟩)) (.int .u8 (y:Int))).events prog w es=es:=λw es=>events_indexAt_array _ _ _ _ _ _ underlying197 ⟨ag,ag⟩
   co_applyP su qj (λ_ _ h r=>AG.rely h r) (λ_ _ _ h r=>iY qj h r) (i:=0) rfl ak ak ak ak ak (.inl ⟨aF,λ_ hw=>⟨run_eq_of ?asH,?ard⟩⟩) hF ?ati
   case asH=>
    exact axf
   case ard=>
    skip
    co_quiet qj
   try walk_nrm
   co_applyP su qj (λ_ _ h r=>AG.rely h r) (λ_ _ _ h r=>iY qj h r) (i:=1) rfl ak ak ak ak ak (.inl ⟨aF,λ_ hw=>⟨run_eq_of ?asI,?arf⟩⟩) hF ?atj
   case asI=>
    exact axf
   case arf=>
    skip
    co_quiet qj
   try walk_nrm
   co_applyP su qj (λ_ _ h r=>AG.rely h r) (λ_ _ _ h r=>iY qj h r) (i:=2) rfl ak ak ak ak ak (.inl ⟨aF,λ_ hw=>⟨run_eq_of ?asJ,?arh⟩⟩) hF ?atl
   case asJ=>
    exact axf
   case arh=>
    skip
    co_still qj
   try walk_nrm
   co_applyP su qj (λ_ _ h r=>AG.rely h r) (λ_ _ _ h r=>iY qj h r) (i:=3) rfl ak ak ak ak ak (.inl ⟨aF,λ_ hw=>⟨run_eq_of ?asK,?ari⟩⟩) hF ?atm
   case asK=>
    intro K hK;have hc:=hw.at hcx;go_simp;exact hK
   case ari=>
    have hc:=hw.at hcx;refine tH (.inl hw.af.ml) (hw.af.bs.lt hw.af.ml) ?_;co_evs (exact⟨_,rfl,rfl⟩)
   try walk_nrm
   co_applyP su qj (λ_ _ h r=>AG.rely h r) (λ_ _ _ h r=>iY qj h r) (i:=4) rfl ak ak ak ak ak (.inl ⟨aF,λ_ hw=>⟨run_eq_of ?asL,?arj⟩⟩) hF ?atn
   case asL=>
    exact axf
   case arj=>
    skip
    co_quiet qj
   try walk_nrm
   co_applyP su qj (λ_ _ h r=>AG.rely h r) (λ_ _ _ h r=>iY qj h r) (i:=5) rfl ak ak ak ak ak (.inl ⟨aF,λ_ hw=>⟨run_eq_of ?asM,?ark⟩⟩) hF ?ato
   case asM=>
    exact axf
   case ark=>
    skip
    co_still qj
   try walk_nrm
   co_applyP su qj (λ_ _ h r=>AG.rely h r) (λ_ _ _ h r=>iY qj h r) (i:=6) rfl ak ak ak ak ak (.inl ⟨aF,λ_ hw=>⟨run_eq_of ?asN,?arl⟩⟩) hF ?atp
   case asN=>
    intro K hK;have hc:=hw.tab hT akJ;go_simp;exact hK
   case arl=>
    have hc:=hw.tab hT akJ;refine tH (.inl hw.m6) (hw.af.bs.lt hw.m6) ?_;co_evs (exact⟨_,rfl,rfl⟩)
   try walk_nrm
   co_applyP su qj (λ_ _ h r=>AG.rely h r) (λ_ _ _ h r=>iY qj h r) (i:=7) rfl ak ak ak ak ak (.inl ⟨aF,λ_ hw=>⟨run_eq_of ?asO,?arn⟩⟩) hF ?atq
   case asO=>
    exact axf
   case arn=>
    skip
    co_quiet qj
   try walk_nrm
   co_applyP su qj (λ_ _ h r=>AG.rely h r) (λ_ _ _ h r=>iY qj h r) (i:=8) rfl ak ak ak ak ak (.inl ⟨aF,λ_ hw=>⟨run_eq_of ?asP,?aro⟩⟩) hF ?atr
   case asP=>
    exact axf
   case aro=>
    skip
    co_still qj
   try walk_nrm
   co_applyP Gq (i:=9) ak
   refine⟨_,rfl,.inl ⟨aF,?_⟩⟩;intro w₂ r;replace hF:=hF.rely r;clear r;refine aps ?_;intro K hK;have hc:=hF.at hcx;have hz:=wo _ hF.af.hx m;go_simp
   try(unfold stored;go_simp)
   refine hK _ _ ⟨?_,λh=>absurd rfl h,?_⟩
   .refine P5 hF.af.ml hF.af.neC (hF.af.bs.lt hF.af.ml) ?_
    co_evs (exact⟨_,_,rfl,rfl⟩)
   clear hK K hc hz;replace hF:=hF.set m (x^^^mul y f);rw[Yu f xs ys m x y hx hy,<-u8_xor_nat _ _ ak8 hmul]at hF;refine KH ak ?_ _;co_then;co_reg qj;co_op AG.rely hF (co_quiet qj);co_op AG.rely hF (co_quiet qj);co_apply b_ qj;co_then
   have E8:IntKind.i64.wrap ((m:Int)+1)=((m+1:Nat):Int):=by
    have:nl<=9223372036854775807:=by simpa[maxLen]using hmax
    rw[iq];omega
   simp only[E8];refine⟨⟨m+1,_,_,_,_,_,_,_,_,_,_,_,_,_,_,_,_,_,_,_,_,_,_,_,ag,hF,rfl⟩,?_⟩;simp[muA];omega
  .intro hml;have hmk:m=k:=by have:=gQ hml;omega
   have xg:ys.take m=ys:=gZ (by rw[show ys.length=k from hk];omega)
   co_ctl qj
   co_then;exact⟨rfl,_,resultsC_none aF _,rfl,by rw[xg]at hF;exact hF.af⟩
end
structure Um where
 bs:aW
 bo:Nat
 oo:Nat
 co:Nat
 ys:aC
def comb:List (Nat×aC)->aC->aC
 |[],cur=>cur
 |z::zs,cur=>comb zs (AY z.1 cur z.2)
theorem Ce:∀(zs:List (Nat×aC))(cur:aC),(comb zs cur).length=cur.length
 |[],_=>rfl
 |z::zs,cur=>by rw[comb,Ce zs,RP]
theorem QF:∀(zs:List (Nat×aC))(cur:aC)(z:Nat×aC),comb (zs++[z]) cur=AY z.1 (comb zs cur) z.2
 |[],_,_=>rfl
 |y::zs,cur,z=>by rw[df,comb,QF zs,comb]
theorem afv:∀(zs:List (Nat×aC))(cur:aC),(∀z∈zs,z.1<256/\∀y∈z.2,y<256)->(∀x∈cur,x<256)->∀x∈comb zs cur,x<256
 |[],_,_,h=>h
 |z::zs,cur,h1,h2=>afv zs _ (λy hy=>h1 y (by simp[hy])) (afu z.1 (h1 z aA).1 cur z.2 h2 (h1 z aA).2)
theorem ahu(L:Nat):madeCells #[.int .u8 0] L=tK (List.replicate L 0):=by
 apply nO;intro i;rw[yz];by_cases h:i<L
 .simp[madeCells,h,Nat.mod_one]
 .simp[madeCells,h]
section
variable [Payload][qR]{main:Bool}{Wg C n B:Nat}{Cl:Nat->Prop}
structure CIn(Wg C B:Nat)(bw ow bc oc L:Nat)(ws:aC)(cs:List Um)(w:ah):Prop where
 rw:Sj Wg C B w bw
 lw:bw<w.heap.size
 rc:Sj Wg C B w bc
 lc:bc<w.heap.size
 hw:∀j x,ws[j]?=some x->w.cell? ⟨bw,ow+j,none⟩=some (.int .u8 ((x:Nat):Int))
 hc:∀j c,cs[j]?=some c->w.cell? ⟨bc,oc+j,none⟩=some (.slice c.bs L c.co)
 yf:∀c∈cs,Sj Wg C B w c.bo/\c.bo<w.heap.size/\(0<L->c.bs=some ⟨c.bo,c.oo,none⟩)/\∀i y,c.ys[i]?=some y->w.cell? ⟨c.bo,c.oo+i,none⟩=some (.int .u8 ((y:Nat):Int))
theorem CIn.ex{w w₁:ah}{bw ow bc oc L:Nat}{ws:aC}{cs:List Um}(h:CIn Wg C B bw ow bc oc L ws cs w)(r:Ex Wg C n B Cl (λ_=>False) w w₁):CIn Wg C B bw ow bc oc L ws cs w₁:=by
 have st:∀{b:Nat},Sj Wg C B w b->∀o,w₁.cell? ⟨b,o,none⟩=w.cell? ⟨b,o,none⟩:=λhb o=>ava
 exact⟨r.rdb h.rw,bH h.lw r.size,r.rdb h.rc,bH h.lc r.size,λj x e=>(st h.rw _).trans (h.hw j x e),λj c e=>(st h.rc _).trans (h.hc j c e),
  λc hc=>let⟨h1,h2,h3,h4⟩:=h.yf c hc;⟨r.rdb h1,bH h2 r.size,h3,λi y e=>(st h1 _).trans (h4 i y e)⟩⟩
structure CF(Wg C n B:Nat)(Cl:Nat->Prop)(w0 w:ah):Prop where
 bs:Bs C B w
 ex:Ex Wg C n B Cl (λ_=>False) w0 w
omit [qR]in
theorem CF.rely{w0 w w₁:ah}(h:CF Wg C n B Cl w0 w)(r:Ro Wg C n B Cl w w₁):CF Wg C n B Cl w0 w₁:=⟨h.bs.rely r,h.ex.rely r⟩
structure CG(Wg C n B:Nat)(Cl:Nat->Prop)(w0:ah)(N:Nat)(cur:aC)(w:ah):Prop where
 bs:Bs C B w
 ex:Ex Wg C n B Cl (λ_=>False) w0 w
 lo:w0.heap.size<=N
 mn:qQ w N
 hx:w.heap[N]?=some (.cells (tK cur) 5)
omit [qR]in
theorem CG.rely{w0 w w₁:ah}{N:Nat}{cur:aC}(h:CG Wg C n B Cl w0 N cur w)(r:Ro Wg C n B Cl w w₁):CG Wg C n B Cl w0 N cur w₁:=⟨h.bs.rely r,h.ex.rely r,h.lo,(r.yx _).2 h.mn,(r.mine _ h.mn).trans h.hx⟩
omit [qR]in
theorem CF.alloc{w0 w:ah}(h:CF Wg C n B Cl w0 w)(L:Nat):CG Wg C n B Cl w0 w.heap.size (List.replicate L 0) (w.alloc (.cells (madeCells #[.int .u8 0] L) 5)):=
 ⟨h.bs.alloc _,Uh h.ex h.bs _,h.ex.size,zO (w:=w) (w':=w.alloc _) rfl h.bs.tg (ay _) iE,by rw[Ed,ahu]⟩
omit [qR]in
theorem CG.back{w0 w w₁:ah}(h0:Bs C B w0){N:Nat}{cur:aC}(h:CG Wg C n B Cl w0 N cur w)(r:Ex Wg C n B Cl (· =N) w w₁):Ex Wg C n B Cl (λ_=>False) w0 w₁:=
 ⟨bF h.ex.size r.size,r.tape.trans h.ex.tape,r.os.trans h.ex.os,r.tag∘h.ex.tag,λb x=>r.own b (h.ex.own b x),λb x y=>(r.mine b (h.ex.own b x) (λe=>by have:=h0.lt x;have:=h.lo;omega)).trans (h.ex.mine b x y),
  λb x y z=>(r.low b x y z).trans (h.ex.low b x y z),λi x=>(r.cell i x).trans (h.ex.cell i x),r.pay∘h.ex.pay⟩
def E_(ws:aC)(cs:List Um):List (Nat×aC):=ws.zip (cs.map (·.ys))
def CI(Wg C n B:Nat)(Cl:Nat->Prop)(w0:ah)(bw ow cw bc oc cc L k N:Nat)(ws:aC)(cs:List Um)(a:Act)(w:ah):Prop:=
 ∃(j:Nat)(v2 v3 v4 v6 v7 v8 v9 v10 v11 v12 S_ Tc PS PU v20 v21 v22 TK v24 TL v26 ZZ v28:ai),j<=k/\CG Wg C n B Cl w0 N (comb ((E_ ws cs).take j) (List.replicate L 0)) w/\a={tmps:=#[.slice (some ⟨bw,ow,none⟩) k cw,.slice (some ⟨bc,oc,none⟩) k cc,v2,v3,v4,.slice (some ⟨N,0,none⟩) L L,v6,v7,v8,v9,v10,v11,v12,.slice (some ⟨bc,oc,none⟩) k cc,.int .i64 ((k:Nat):Int),.int .i64 ((j:Nat):Int),S_,Tc,PS,PU,v20,v21,v22,TK,v24,TL,v26,ZZ,v28],defers:=[]}
def muC(k:Nat)(a:Act)(_:ah):Nat:=match a.tmps.getD 15 undef with| .int _ j=>k-j.toNat|_=>0
omit [Payload][qR]in
theorem Tz:(prog.info? 5).map (λi=>(i.zero,i.size,i.bytes))=some (some (.int .u8 0),1,1):=ak
theorem Xp(k L:Nat)(V4:0<k)(hk:k<=128)(hL:L<=140737488355328):∃q,∀(w:ah)(bw ow cw bc oc cc:Nat)(ws:aC)(cs:List Um),Dc ws k->cs.length=k->(∀x∈ws,x<256)->(∀c∈cs,Dc c.ys L/\∀y∈c.ys,y<256)->Bs C B w->CIn Wg C B bw ow bc oc L ws cs w->
  CallsC prog main (Ro Wg C n B Cl) (Dg Wg C n B Cl) 81 #[.slice (some ⟨bw,ow,none⟩) k cw,.slice (some ⟨bc,oc,none⟩) k cc] q w λv w'=>∃N,v=.slice (some ⟨N,0,none⟩) L L/\CG Wg C n B Cl w N (comb (E_ ws cs) (List.replicate L 0)) w':=by
 obtain⟨qa,ha⟩:=aer (main:=main) (Wg:=Wg) (C:=C) (n:=n) (B:=B) (Cl:=Cl) L;obtain⟨i0,hi,xY,wW,vV⟩:=cO Tz
 have hmk:∀w:ah,(Instr.makeSlice 24 (.int .i64 (L:Int)) (.int .i64 (L:Int))).run prog w=.ok (.slice (some ⟨w.heap.size,0,none⟩) L L) (w.alloc (.cells (madeCells #[.int .u8 0] L) 5)):=λw=>by exact ax2
 have hme:∀(w:ah)(es:aN),(Instr.makeSlice 24 (.int .i64 (L:Int)) (.int .i64 (L:Int))).events prog w es=es:=λw es=>
  events_make (P:=prog) w 24 5 i0 (.int .u8 0) underlying24 hi xY .i64 .i64 (L:Int) (L:Int) ag ag jv ag avk es
 clear hi xY wW vV;co_apply Exists.intro;intro w bw ow cw bc oc cc ws cs hlw hlc hws hcs hb VN;co_apply callsC_of_wpC func81 aF rfl;simp only[ntmps81,fH,dQ,d_,Nat.reduceAdd,Nat.reduceSub,eU,eQ,eH,eP,dw,df];have hF:CF Wg C n B Cl w w:=⟨hb,.refl w⟩;have hkI:(0:Int)<(k:Int):=ag;obtain⟨c0,hc0⟩:∃c,cs[0]?=some c:=⟨cs[0]' ag,aA⟩;co_apply cu qj;co_reg qj;co_op CF.rely hF (co_quiet qj);co_apply b_ qj;co_then;co_apply cu qj;co_reg qj;co_op CF.rely hF (co_quiet qj)
 co_opw CF.rely hF (skip) (co_still qj)
 co_opw CF.rely hF (have hc:=(VN.ex hF.ex).hc 0 c0 hc0;simp only[fF]at hc) (refine tH (VN.ex hF.ex).rc (VN.ex hF.ex).lc ?_;co_evs (exact⟨_,rfl,rfl⟩))
 clear hc;co_op CF.rely hF (co_quiet qj)
 co_opw CF.rely hF (skip) (rw[listed_nil lF];exact zx hF.bs.hC _ rfl)
 replace hF:=hF.alloc L;generalize hN:Array.size (World.heap _)=N at hF⊢;clear hN;co_op CG.rely hF (co_quiet qj);co_apply b_ qj;co_then;co_apply cu qj;co_apply cu qj;co_reg qj;co_op CG.rely hF (co_quiet qj);co_op CG.rely hF (co_quiet qj);co_op CG.rely hF (co_quiet qj);co_apply b_ qj;co_then;co_apply lI qj;co_apply ku qj (CI Wg C n B Cl w bw ow cw bc oc cc L k N ws cs) (muC k) _ k
 .exact⟨0,_,_,_,_,_,_,_,_,_,_,_,_,_,_,_,_,_,_,_,_,_,_,_,iH _,hF,rfl⟩
 .simp[muC]
 rintro a w' ⟨j,v2,v3,v4,v6,v7,v8,v9,v10,v11,v12,S_,Tc,PS,PU,v20,v21,v22,TK,v24,TL,v26,ZZ,v28,hj,hF,rfl⟩;co_apply cu qj;co_reg qj;co_op CG.rely hF (co_quiet qj);co_apply b_ qj;co_then;co_apply cu qj
 co_split qj (decide ((j:Int)<(k:Int)))
 .intro Oc;have ah3:j<k:=avK;have hjI:(j:Int)<(k:Int):=ag;clear Oc;obtain⟨c,hcj⟩:∃c,cs[j]?=some c:=⟨cs[j]' ag,aA⟩;obtain⟨x,hxj⟩:∃x,ws[j]?=some x:=⟨ws[j]'(by rw[show ws.length=k from hlw];omega),aA⟩;have ak8:x<256:=hws x (jO hxj);have sJ:=jO hcj;obtain⟨hly,hys⟩:=hcs c sJ
  co_ctl qj
  co_then;co_apply cu qj;co_apply lI qj;co_apply cu qj;co_reg qj;co_op CG.rely hF (co_quiet qj)
  co_opw CG.rely hF (skip) (co_still qj)
  co_opw CG.rely hF (have hc:=(VN.ex hF.ex).hc j c hcj) (refine tH (VN.ex hF.ex).rc (VN.ex hF.ex).lc ?_;co_evs (exact⟨_,rfl,rfl⟩))
  clear hc;co_op CG.rely hF (co_quiet qj);co_op CG.rely hF (co_quiet qj);co_apply b_ qj;co_then;co_reg qj;co_op CG.rely hF (co_quiet qj);co_op CG.rely hF (co_quiet qj);co_op CG.rely hF (co_quiet qj)
  co_opw CG.rely hF (skip) (co_still qj)
  co_opw CG.rely hF (have hc:=(VN.ex hF.ex).hw j x hxj) (refine tH (VN.ex hF.ex).rw (VN.ex hF.ex).lw ?_;co_evs (exact⟨_,rfl,rfl⟩))
  clear hc;co_op CG.rely hF (co_quiet qj);have yf:=(VN.ex hF.ex).yf c sJ;have hN1:=hF.lo;have Wh:=hb.hC;have hN3:=hb.hB;have hN4:=(VN.yf c sJ).2.1
  have hAF:∀w1,CG Wg C n B Cl w N (comb ((E_ ws cs).take j) (List.replicate L 0)) w1->AF Wg C n B Cl w1 N (comb ((E_ ws cs).take j) (List.replicate L 0)) c.bo c.oo c.ys w1:=λw1 h1=>
   ⟨h1.bs,.refl _,h1.mn,ag,ag,((VN.ex h1.ex).yf c sJ).1,((VN.ex h1.ex).yf c sJ).2.1,ag,h1.hx,((VN.ex h1.ex).yf c sJ).2.2.2⟩
  have arp:∀z∈(E_ ws cs).take j,z.1<256/\∀y∈z.2,y<256:=by intro z hz;have hz:=List.mem_of_mem_take hz;have h1:=List.of_mem_zip hz;refine⟨hws _ h1.1,?_⟩;obtain⟨c',V3,e⟩:=gI.1 h1.2;rw[<-e];exact(hcs c' V3).2
  co_apply opsC_call qj rfl aF rfl
  .walk_nrm;exact ha _ c.bs N L L c.bo c.oo c.co x _ c.ys (VN.yf c sJ).2.2.1 ak8 (afv _ _ arp (by intro x hx;rw[List.mem_replicate]at hx;omega)) hys (by show List.length _=L;rw[Ce];simp) (ay _) hly (by simp[maxLen];omega) (hAF _ hF)
  rintro v w' ⟨rfl,haf⟩
  have hsn:(E_ ws cs).take (j+1)=(E_ ws cs).take j++[(x,c.ys)]:=by
   rw[auP]
   congr 1
   simp[E_,List.getElem?_zip_eq_some,hxj,hcj]
  replace hF:CG Wg C n B Cl w N (comb ((E_ ws cs).take (j+1)) (List.replicate L 0)) w':=⟨haf.bs,hF.back hb haf.ex,hF.lo,haf.ml,by rw[hsn,QF];exact haf.hx⟩;clear haf hAF;walk_nrm;co_apply b_ qj;co_then;co_reg qj;co_op CG.rely hF (co_quiet qj);co_op CG.rely hF (co_quiet qj);co_apply b_ qj;co_then;have E8:IntKind.i64.wrap ((j:Int)+1)=((j+1:Nat):Int):=jG;simp only[E8];refine⟨⟨j+1,_,_,_,_,_,_,_,_,_,_,_,_,_,_,_,_,_,_,_,_,_,_,_,ag,hF,rfl⟩,?_⟩;simp[muC];omega
 .intro Oc;have hjk:j=k:=avL;have xg:(E_ ws cs).take j=E_ ws cs:=gZ (by simp[E_];omega);rw[xg]at hF
  co_ctl qj
  co_then;co_apply cu qj;co_reg qj;co_op CG.rely hF (co_quiet qj);co_op CG.rely hF (co_quiet qj);co_apply b_ qj;co_then;co_apply wpC_ret qj;exact axi
end
end Go.Proofs.Y
namespace Go.Lf
open Go.Conc
def ZY:Obj->Bool
 | .view a _=>!a.spot.isSome
 | .pending ..=>true
 |_=>false
def shut:Obj->Obj
 | .view _ t=>.view ⟨0,0,some default⟩ t
 | .pending ..=>.stringIter .empty 0
 |o=>o
def apu:Obj->Obj
 | .cells _ t fr=>.cells #[] t fr
 |o=>o
theorem ana{o:Obj}(h:ZY o=false):xy o:=by cases o<;>first|trivial|(simp[ZY]at h;exact h)|cases h
theorem acw{o:Obj}(h:ZY o=true):O8 o (shut o):=by cases o<;>first|exact .inl ⟨_,_,rfl,rfl⟩|exact .inr ⟨_,_,rfl,rfl⟩|cases h
end Go.Lf
namespace Go.Proofs.Y
open Go.Proofs.Tryz
theorem aaS(n:Nat)(f:Nat->F):F.sum (List.range (n+1)) f=F.add (F.sum (List.range n) f) (f n):=by
 have key:∀(l:aC)(x:Nat),F.sum (l++[x]) f=F.add (F.sum l f) (f x):=λl x=>by
  induction l with
  |nil=>simp only[dw,F.sum];rw[F.add_zero,F.zero_add]
  |cons y l ih=>simp only[df,F.sum,ih,F.add_assoc]
 rw[dP,key]
theorem UE(w:Nat->Nat)(c:Nat->aC)(L m:Nat)(hm:m<L)(hc:∀j,(c j).length=L):∀n:Nat,
  (comb ((List.range n).map λj=>(w j,c j)) (List.replicate L 0)).getD m 0=Nat.rec (motive:=λ_=>Nat) 0 (λj r=>r^^^mul ((c j).getD m 0) (w j)) n
 |0=>by show(List.replicate L 0).getD m 0=0;simp[hm]
 |n+1=>by
  rw[dP,iP];simp only[je,kU];rw[QF];have hl:(comb ((List.range n).map λj=>(w j,c j)) (List.replicate L 0)).length=L:=by rw[Ce];simp
  have ih:=UE w c L m hm hc n
  have key:∀(f:Nat)(xs ys:aC)(m:Nat),m<xs.length->m<ys.length->(AY f xs ys).getD m 0=xs.getD m 0^^^mul (ys.getD m 0) f:=by
   intro f xs
   induction xs with
   |nil=>intro ys m h;simp at h
   |cons x xs ihx=>
    intro ys m h h';cases ys with
    |nil=>simp at h'
    |cons y ys=>
     cases m with
     |zero=>simp[AY]
     |succ m=>
      simp only[AY,av1];exact ihx ys m pW (by simpa using h')
  rw[key _ _ _ m (by rw[hl];exact hm) (by rw[hc];exact hm),ih]
theorem aeO(K:Nat)(R X:Nat->F):∀n,Nat.rec (motive:=λ_=>Nat) 0 (λj r=>r^^^mul (X j).val (R j).val) n=(F.sum (List.range n) λj=>F.mu (R j) (X j)).val
 |0=>rfl
 |n+1=>by rw[aaS];show _^^^_=(F.sum (List.range n) λj=>F.mu (R j) (X j)).val^^^(F.mu (R n) (X n)).val;rw[<-aeO K R X n,F.wI];rfl
end Go.Proofs.Y
namespace Go.Lf
open Go.Conc Go.Gh Go.RowKit
open Classical
noncomputable def NT(X:Nat->Prop)(b:Nat)(o:Obj):Obj:=if X b then apu o else if ZY o then shut o else o
theorem YZ(w:ah)(X:Nat->Prop)(h:∀b,X b->∃cs t,w.heap[b]?=some (.cells cs t (0,0))):
  ∃(Y:Nat->aZ)(v:ah),yg X Y w v/\(∀b c t fr,¬X b->w.heap[b]?=some (.cells c t fr)->v.heap[b]?=some (.cells c t fr)):=by
 let Y:Nat->aZ:=λb=>if X b then none else(w.heap[b]?).bind λo=>if ZY o then some o else none
 have Mc:∀b,(w.heap.mapIdx (NT X))[b]?=(w.heap[b]?).map (NT X b):=λb=>aA
 have hY:∀b o,Y b=some o->¬X b/\w.heap[b]?=some o/\ZY o=true:=λb o hy=>by
  simp only[Y]at hy;split at hy
  .cases hy
  .rename_i hne;cases hb:w.heap[b]? with
   |none=>rw[hb]at hy;cases hy
   |some o'=>
    rw[hb]at hy;simp only[gX]at hy;split at hy
    .rename_i hg;cases hy;exact⟨hne,rfl,hg⟩
    .cases hy
 refine⟨Y,{w with heap:=w.heap.mapIdx (NT X)},⟨aA,λb hb=>?_,λb hx hy=>?_,λb o hy=>?_,λb hx=>?_,λb o hb=>?_,rfl,rfl,λ_ _=>rfl,λb cs t fr hx hb=>?_⟩,λb c t fr hx hb=>?_⟩
 .rcases hb with hb|hb
  .obtain⟨cs,t,hc⟩:=h b hb;simpa using(eG.1 hc).1
  .obtain⟨o,ho⟩:=avS.1 hb;simpa using(eG.1 (hY b o ho).2.1).1
 .show w.heap[b]?=(w.heap.mapIdx (NT X))[b]?;rw[Mc];cases hb:w.heap[b]? with
  |none=>rfl
  |some o=>
   simp only[Y,au hx,hb,gX]at hy
   have hg:ZY o=false:=by
    cases hg:ZY o with
    |false=>rfl
    |true=>rw[hg]at hy;cases hy
   simp only[fM,NT,au hx,hg,dm,bU]
 .obtain⟨h1,h2,h3⟩:=hY b o hy;refine⟨shut o,h2,?_,acw h3⟩;show(w.heap.mapIdx (NT X))[b]?=_;rw[Mc,h2];simp only[fM,NT,au h1,h3,aY]
 .obtain⟨cs,t,hc⟩:=h b hx;refine⟨cs,t,(0,0),hc,?_⟩;show(w.heap.mapIdx (NT X))[b]?=_;rw[Mc,hc];simp only[fM,NT,ax hx,apu]
 .change(w.heap.mapIdx (NT X))[b]?=some o at hb;rw[Mc]at hb;obtain⟨o',h1,rfl⟩:=dU.1 hb;unfold NT;split
  .rename_i hx;obtain⟨cs,t,hc⟩:=h b hx;rw[h1]at hc;cases hc;trivial
  .split
   .rename_i hg;exact(acw hg).nv
   .rename_i hg;exact ana (by simpa using hg)
 .change(w.heap.mapIdx (NT X))[b]?=_ at hb;obtain⟨cs',t',hc⟩:=h b hx;rw[Mc,hc]at hb;simp only[fM,NT,ax hx,apu,gW,Obj.cells.injEq]at hb;exact hb.2.2.symm
 .show(w.heap.mapIdx (NT X))[b]?=_;rw[Mc,hb];simp only[fM,NT,au hx,ZY,dm,bU]
theorem acW{X:Nat->Prop}{Shun:Loc->Prop}(h:∀l,Shun l->∃a:Addr,l=.cell a/\X a.block):zN X (DM Shun):=by
 intro n w es hs hev;refine⟨hs,λe he=>?_⟩;rcases hev e he with⟨a,wr,rfl,h2,h3⟩|⟨r,wr,sy,rfl,_,_⟩|⟨m0,hm0,rfl⟩
 .refine⟨⟨λx hx Z8=>?_,aA,aA⟩,λx hx ad ead=>?_⟩
  .simp only[MemAct.ofEvent,MemAct.touch?,gW]at hx;subst hx;obtain⟨a',h4,h5⟩:=h _ Z8;cases h4;exact absurd h5 h3
  .simp only[MemAct.ofEvent,MemAct.touch?,gW]at hx;subst hx;cases ead;exact h2
 .have no:∀x,(MemAct.ofEvent ⟨.obj r,wr,sy⟩).touch?=some x->∀a:Addr,x.loc≠.cell a:=λx hx a e=>by
   cases wr<;>cases sy<;>simp only[MemAct.ofEvent,MemAct.touch?,gW,reduceCtorEq]at hx<;>(subst hx;cases e)
  exact⟨⟨λx hx Z8=>by obtain⟨a',h4,_⟩:=h _ Z8;exact absurd h4 (no x hx a'),aA,aA⟩,λx hx ad ead=>absurd ead (no x hx ad)⟩
 .rcases hm0 with rfl|⟨_,rfl⟩<;>exact⟨⟨λx hx=>awn,aA,aA⟩,λx hx=>awn⟩
def tX(B:Nat)(w w':ah):Prop:=Below B {w with tape:=w'.tape} w'
theorem tX.of{B:Nat}{w w':ah}(h:Below B w w'):tX B w w':=⟨h.os,rfl,h.output,h.size,h.block⟩
theorem tX.refl(B:Nat)(w:ah):tX B w w:=tX.of (aO B w)
theorem tX.tp{B:Nat}{w w':ah}(h:tX B w w')(τ:Nat->Question->Nat)(d:Nat):tX B w {w' with tape:=τ,drawn:=d}:=⟨h.os,rfl,h.output,h.size,h.block⟩
theorem tX.trans{B B':Nat}{w w' w'':ah}(h:tX B w w')(h':tX B' w' w'')(hB:B<=B'):tX B w w'':=⟨h'.os.trans h.os,rfl,h'.output.trans h.output,bF h.size h'.size,λk hk=>(h'.block k (bH hk hB)).trans (h.block k hk)⟩
theorem tX.uo{B:Nat}{w w':ah}(h:tX B w w'):w.heap.size<=w'.heap.size:=h.size
theorem tX.blk{B:Nat}{w w':ah}(h:tX B w w'){k:Nat}(hk:k<B):w'.heap[k]?=w.heap[k]?:=h.block k hk
theorem tX.mono{B B':Nat}{w w':ah}(h:tX B w w')(hB:B'<=B):tX B' w w':=⟨h.os,rfl,h.output,h.size,λk hk=>h.block k (bH hk hB)⟩
