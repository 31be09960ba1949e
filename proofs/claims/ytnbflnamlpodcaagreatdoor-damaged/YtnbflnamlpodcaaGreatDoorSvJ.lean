import Derived.Deep.AppendLies
import Derived.Test.YtnbflnamlpodcaaGreatDoorSvH
import Derived.BigQuiet
set_option maxHeartbeats 4000000
set_option maxRecDepth 100000
namespace Go.Proofs.Y
open Go.Proofs.Tryz
open Go.RowKit Go.Deep
def acf(c:Int):Int:=if c<0 then-(c+1)else c
def zn(c:Int)(n:Nat):Nat:=(acf c).toNat%n
theorem zq(c:Int){n:Nat}(h:0<n):zn c n<n:=fJ _ h
theorem EC(c:Int)(n:Nat)(z:Int)(hz:z=(n:Int))(h0: -9223372036854775808<=c)(h1:c<9223372036854775808)(hn:0<n)(hn2:n<9223372036854775808)(w:World):
  Calls prog 10 #[.int .i64 c,.int .i64 z] w λe w'=>e=.returned (.int .i64 ((zn c n:Nat):Int))/\w'=w:=by
 subst hz;by_cases hc:c<0
 .obtain⟨m,hm⟩:∃m:Nat,c= -((m:Int)+1):=⟨(-(c+1)).toNat,ae⟩
  have e: -((c+1).tmod n)=((zn c n:Nat):Int):=by
   have e1:c+1= -(m:Int):=ae;have e2:acf c=(m:Int):=by unfold acf;rw[aj hc];omega
   rw[e1,Int.neg_tmod,Int.neg_neg,zn,e2];rfl
  clear hm;go_enter func10,ntmps10;go_wp2;go_ret;exact⟨by rw[<-e];rfl,rfl⟩
 .obtain⟨m,rfl⟩:∃m:Nat,c=(m:Int):=⟨c.toNat,ae⟩
  have e:(m:Int)%n=((zn m n:Nat):Int):=by
   have e2:acf m=(m:Int):=by unfold acf;rw[ah hc]
   rw[zn,e2];rfl
  go_enter func10,ntmps10;go_wp2;go_ret;exact⟨by rw[<-e];rfl,rfl⟩
def prm(k n c:Nat):Value:=.agg #[.int .i64 (k:Int),.int .i64 (n:Int),.int .i64 (c:Int)]
def Gq(n:Int):Nat:=1+zn n 12
def Wv(k n:Int):Nat:=1+zn k (Gq n)
theorem Zk(n:Int):1<=Gq n/\Gq n<=12:=by have:=zq n (show 0<12 by omega);unfold Gq;omega
theorem aks(k n:Int):1<=Wv k n/\Wv k n<=Gq n:=by have:=Zk n;have:=zq k (show 0<Gq n by omega);unfold Wv;omega
def Ie(c:Int):Prop:= -9223372036854775808<=c/\c<9223372036854775808
structure IC(w:World)(v:Value)(zs:List Int):Prop where
 abv:∀z∈zs,Ie z
 lies:(∃cap bo,zs=[]/\v=.slice bo 0 cap)\/∃b off cap,v=.slice (some ⟨b,off,none⟩) zs.length cap/\b<w.heap.size/\∀j z,zs[j]?=some z->w.cell? ⟨b,off+j,none⟩=some (.int .i64 z)
theorem IC.open{w:World}{v:Value}{zs:List Int}(h:IC w v zs):∃bo cap,v=.slice bo zs.length cap/\(0<zs.length->∃b off,bo=some ⟨b,off,none⟩/\b<w.heap.size/\∀j z,zs[j]?=some z->w.cell? ⟨b,off+j,none⟩=some (.int .i64 z)):=by
 rcases h.lies with⟨cap,bo,rfl,rfl⟩|⟨b,off,cap,h1,h2,h3⟩
 .exact⟨bo,cap,rfl,λh=>absurd h ai⟩
 .exact⟨_,cap,h1,λ_=>⟨b,off,rfl,h2,h3⟩⟩
structure as5(n:Nat)(xs:List Nat):Prop where
 len:xs.length=n
 lt:∀(i x:Nat),xs[i]?=some x->x<n
 inj:∀(i j x:Nat),xs[i]?=some x->xs[j]?=some x->i=j
theorem Tryz.anc:(prog.info? 143).map (λi=>(i.zero,i.size,i.bytes))=some (some (.agg #[.int .i64 0,.slice none 0 0]),2,32):=ag
theorem Tryz.apf:(prog.info? 4).map (λi=>(i.zero,i.size,i.bytes))=some (some (.bool false),1,1):=ag
theorem ah4{w:World}{b o:Nat}{v:Value}(h:w.cell? ⟨b,o,none⟩=some v):b<w.heap.size:=block_lt_of_cell h
structure CL where
 L:Nat
 ix:Nat->Nat
 db:Nat->Option Addr
 dc:Nat->Nat
def CL.d(q:CL)(i:Nat):Value:=.slice (q.db i) q.L (q.dc i)
structure CAt(w:World)(b k:Nat)(q:CL):Prop where
 lt:b<w.heap.size
 c0:∀i,i<k->w.cell? ⟨b,i*2,none⟩=some (.int .i64 ((q.ix i:Nat):Int))
 c1:∀i,i<k->w.cell? ⟨b,i*2+1,none⟩=some (q.d i)
structure CO(w:World)(b o n:Nat)(q:CL):Prop where
 lt:b<w.heap.size
 c0:∀i,i<n->w.cell? ⟨b,o+i*2,none⟩=some (.int .i64 ((q.ix i:Nat):Int))
 c1:∀i,i<n->w.cell? ⟨b,o+i*2+1,none⟩=some (.slice (q.db i) q.L (q.dc i))
theorem CO.below{w w':World}{b o n B:Nat}{q:CL}(h:CO w b o n q)(hb:Below B w w')(hB:w.heap.size<=B):CO w' b o n q:=
 ⟨aK h.lt hb.size,λi hi=>(hb.cell (p:=⟨b,_,none⟩) (aK h.lt hB)).trans (h.c0 i hi),λi hi=>(hb.cell (p:=⟨b,_,none⟩) (aK h.lt hB)).trans (h.c1 i hi)⟩
def cvv(q:CL)(o:Option Nat)(p:Nat):Value:=match o with
 |some i=>if p=0 then .int .i64 ((q.ix i:Nat):Int)else q.d i
 |none=>if p=0 then .int .i64 0 else .slice none 0 0
def Uo(q:CL)(fl:Nat->Option Nat)(j:Nat):Value:=cvv q (fl (j/2)) (j%2)
def Ia(q:CL)(O:List Nat):List Value:=O.flatMap λi=>[.int .i64 ((q.ix i:Nat):Int),q.d i]
theorem Vx(q:CL):∀(O:List Nat)(m i:Nat),O[m]?=some i->(Ia q O)[m*2]?=some (.int .i64 ((q.ix i:Nat):Int))/\(Ia q O)[m*2+1]?=some (q.d i)
 |[],m,i,h=>by simp at h
 |x::O,0,i,h=>by simp at h;subst h;exact⟨rfl,rfl⟩
 |x::O,m+1,i,h=>by have:=Vx q O m i kZ;have e:Ia q (x::O)=.int .i64 ((q.ix x:Nat):Int)::q.d x::Ia q O:=rfl;rw[e,show(m+1)*2=m*2+1+1 by omega];simp only[iV];exact this
theorem acg(q:CL)(O:List Nat)(c:Nat):Ia q (O++[c])=Ia q O++[.int .i64 ((q.ix c:Nat):Int),q.d c]:=by simp[Ia]
theorem W9(w:World)(x y:Value)(t:TypeId):∀j u,[x,y][j]?=some u->(w.alloc (.cells #[x,y] t)).cell? ((⟨w.heap.size,0,none⟩:Addr).add j)=some u:=by
 intro j u hj
 match j,hj with
 |0,hj=>
  simp at hj;subst hj;simp[Addr.add]
 |1,hj=>
  simp at hj;subst hj;simp[Addr.add]
theorem afn{w:World}{b k p i:Nat}{q:CL}{fl:Nat->Option Nat}(h:w.rowIs b 143 (k*2) (Uo q fl)):
  ((w.setCell ⟨b,p*2,none⟩ (.int .i64 ((q.ix i:Nat):Int))).setCell ⟨b,p*2+1,none⟩ (q.d i)).rowIs b 143 (k*2) (Uo q λx=>if x=p then some i else fl x):=
 ((h.set (p*2) _).set (p*2+1) _).congr λj _=>by
   unfold Uo;by_cases e1:j=p*2+1
   .subst e1;rw[aj rfl,show(p*2+1)/2=p by omega,show(p*2+1)%2=1 by omega];dsimp only;rw[aj rfl];rfl
   .rw[ah e1];by_cases e2:j=p*2
    .subst e2;rw[aj rfl,show p*2/2=p by omega,show p*2%2=0 by omega];dsimp only;rw[aj rfl];rfl
    .rw[ah e2];dsimp only;rw[ah ae]
structure PM(w:World)(k:Nat)(q:CL)(fl:Nat->Option Nat)(O:List Nat)(vo:Value)(w':World):Prop where
 pl:w'.rowIs w.heap.size 143 (k*2) (Uo q fl)
 fi:w'.rowIs (w.heap.size+1) 4 k (λt=>.bool (fl t).isSome)
 ot:w'.ownsRow (w.heap.size+2) 143 2 vo O.length (Ia q O)
 sz:w.heap.size+2<=w'.heap.size
 be:Below w.heap.size w w'
theorem ag8(w:World)(k:Nat)(q:CL):(w.alloc (.cells (madeCells #[.int .i64 0,.slice none 0 0] (k*2)) 143)).rowIs w.heap.size 143 (k*2) (Uo q λ_=>none):=by
 have:=World.rowIs_alloc w (madeCells #[.int .i64 0,.slice none 0 0] (k*2)) 143 (Uo q λ_=>none) (λi hi=>by rw[gX]at hi;have h2:i%2=0\/i%2=1:=ae;unfold madeCells Uo cvv;rw[oG,Array.getElem?_range];rw[aj hi];rcases h2 with h|h<;>simp[h])
 rwa[gX]at this
theorem XC(k:Nat)(hk:k<=128)(w:World):(Instr.makeSlice 141 (.int .i64 (k:Int)) (.int .i64 (k:Int))).run prog w=.ok (.slice (some ⟨w.heap.size,0,none⟩) k k) (w.alloc (.cells (madeCells #[.int .i64 0,.slice none 0 0] (k*2)) 143)):=by obtain⟨i0,Af,x_,w_,wH⟩:=bG Tryz.anc;have:=jg (P:=prog) w 141 143 i0 _ underlying141 Af x_ .i64 .i64 k k ae (Int.le_refl _) fU ae;exact awK
theorem aeh(k:Nat)(hk:k<=128)(w:World):(Instr.makeSlice 216 (.int .i64 (k:Int)) (.int .i64 (k:Int))).run prog w=.ok (.slice (some ⟨w.heap.size,0,none⟩) k k) (w.alloc (.cells (madeCells #[.bool false] k) 4)):=
 run_make_row' (P:=prog) 216 4 (.bool false) 1 underlying216 Tryz.apf rfl .i64 .i64 k ae ae w
theorem akt(w:World)(k:Nat)(q:CL):PM w k q (λ_=>none) [] (.slice none 0 0) ((w.alloc (.cells (madeCells #[.int .i64 0,.slice none 0 0] (k*2)) 143)).alloc (.cells (madeCells #[.bool false] k) 4)):=by refine⟨(ag8 w k q).alloc _,?_,dh _ _ _ _,ai,((aA _ _).alloc (ak _) _).alloc ai _⟩;have:=World.rowIs_made (w.alloc (.cells (madeCells #[.int .i64 0,.slice none 0 0] (k*2)) 143)) (.bool false) k 4;exact aww
def ag9(k:Nat)(q:CL)(w:World)(e:Ending)(w':World):Prop:=
 ∃σ,e=.returned (.slice (some ⟨w.heap.size,0,none⟩) k k)/\MH k q.ix σ/\w'.rowIs w.heap.size 143 (k*2) (Uo q λt=>some (σ t))/\Below w.heap.size w w'
theorem ah1(k b o cap:Nat)(q:CL)(w:World)(hk:k<=128)(hx:∀i,i<k->q.ix i<128)(hc:CO w b o k q)(hi:∀i j,i<k->j<k->i≠j->q.ix i≠q.ix j):
  Calls prog 108 #[.slice (some ⟨b,o,none⟩) k cap] w λe w'=>ag9 k q w e w':=by
 obtain⟨i0,Af,x_,w_,wH⟩:=bG Tryz.anc;have m1:=XC k hk w;have m2:=aeh k hk (w.alloc (.cells (madeCells #[.int .i64 0,.slice none 0 0] (k*2)) 143));have h0:=akt w k q;generalize madeCells #[.int .i64 0,.slice none 0 0] (k*2)=Z1 at m1 m2 h0;generalize madeCells #[.bool false] k=Z2 at m2 h0;go_enter func108,ntmps108;go_wp2;clear m1 m2;generalize(w.alloc (Obj.cells Z1 143)).alloc (Obj.cells Z2 4)=w0 at h0⊢
 go_loopw [5,17] (λvo vi wr=>∃c:Nat,c<=k/\vi=.int .i64 (c:Int)/\∃fl O,Pl k q.ix c fl O/\PM w k q fl O vo wr) (λ_ i _=>k-(intOf i).toNat)
 case atStart=>exact⟨0,ae,rfl,_,_,akq k q.ix,h0⟩
 case round=>
  clear h0;obtain⟨c,hcc,rfl,fl,O,hP,hM⟩:=hrel;by_cases qE:c<k
  .have Ag:(c:Int)<(k:Int):=ae;have hcw:=hc.below hM.be (ak _);have g0:=hcw.c0 c qE;have g1:=hcw.c1 c qE;have Ns:=hcw.lt;have hsz:=hM.sz;by_cases hix:q.ix c<k
   .have as6:((q.ix c:Nat):Int)<(k:Int):=ae;obtain⟨hn,hP2⟩:=hP.own (λi hic=>hi i c ae qE ae) hix;have pl1:=hM.pl.alloc (.cells #[.int .i64 ((q.ix c:Nat):Int),.slice (q.db c) q.L (q.dc c)] 143);have fi1:=hM.fi.alloc (.cells #[.int .i64 ((q.ix c:Nat):Int),.slice (q.db c) q.L (q.dc c)] 143);have ot1:=hM.ot.alloc (.cells #[.int .i64 ((q.ix c:Nat):Int),.slice (q.db c) q.L (q.dc c)] 143);have be1:=hM.be.alloc hM.be.size (.cells #[.int .i64 ((q.ix c:Nat):Int),.slice (q.db c) q.L (q.dc c)] 143);have x9:w.heap.size+2<=(wr.alloc (.cells #[.int .i64 ((q.ix c:Nat):Int),.slice (q.db c) q.L (q.dc c)] 143)).heap.size:=az
    have n0:(wr.alloc (.cells #[.int .i64 ((q.ix c:Nat):Int),.slice (q.db c) q.L (q.dc c)] 143)).rowIs wr.heap.size 143 2 (λj=>if j=0 then .int .i64 ((q.ix c:Nat):Int)else .slice (q.db c) q.L (q.dc c)):=
     World.rowIs_alloc wr #[.int .i64 ((q.ix c:Nat):Int),.slice (q.db c) q.L (q.dc c)] 143 _ (λi hi=>by have:i=0\/i=1:=iK;rcases this with rfl|rfl<;>rfl)
    generalize ZX:wr.alloc (.cells #[.int .i64 ((q.ix c:Nat):Int),.slice (q.db c) q.L (q.dc c)] 143)=W1 at pl1 fi1 ot1 be1 x9 n0;have a0:=n0.cell (i:=0) ae;have a1:=n0.cell (i:=1) ae;have af0:=n0.frozen 0;have af1:=n0.frozen 1;simp only[aF,jJ,aU]at a0 a1;have p0:=pl1.cell (i:=q.ix c*2) ae;have pf0:=pl1.frozen (q.ix c*2);have hne:wr.heap.size≠w.heap.size:=ae;have pl3:=afn (p:=q.ix c) (i:=c) pl1;unfold CL.d at pl3;have p1:=(pl1.set (q.ix c*2) (.int .i64 ((q.ix c:Nat):Int))).cell (i:=q.ix c*2+1) ae;have pf1:=(pl1.set (q.ix c*2) (.int .i64 ((q.ix c:Nat):Int))).frozen (q.ix c*2+1);have fi2:=fi1.setOther (a:=⟨w.heap.size,q.ix c*2,none⟩) o_ (.int .i64 ((q.ix c:Nat):Int));have n2:=n0.setOther (a:=⟨w.heap.size,q.ix c*2,none⟩) hne (.int .i64 ((q.ix c:Nat):Int));have ot2:=dF ot1 (a:=⟨w.heap.size,q.ix c*2,none⟩) avE (.int .i64 ((q.ix c:Nat):Int));have be2:=be1.setCell (p:=⟨w.heap.size,q.ix c*2,none⟩) (ak _) (.int .i64 ((q.ix c:Nat):Int));have zD:w.heap.size+2<=(W1.setCell ⟨w.heap.size,q.ix c*2,none⟩ (.int .i64 ((q.ix c:Nat):Int))).heap.size:=by simpa using x9
    generalize K_:W1.setCell ⟨w.heap.size,q.ix c*2,none⟩ (.int .i64 ((q.ix c:Nat):Int))=W2 at pl3 p1 pf1 fi2 n2 ot2 be2 zD;have fi3:=fi2.setOther (a:=⟨w.heap.size,q.ix c*2+1,none⟩) o_ (.slice (q.db c) q.L (q.dc c));have n3:=n2.setOther (a:=⟨w.heap.size,q.ix c*2+1,none⟩) hne (.slice (q.db c) q.L (q.dc c));have ot3:=dF ot2 (a:=⟨w.heap.size,q.ix c*2+1,none⟩) avE (.slice (q.db c) q.L (q.dc c));have be3:=be2.setCell (p:=⟨w.heap.size,q.ix c*2+1,none⟩) (ak _) (.slice (q.db c) q.L (q.dc c));have xu:w.heap.size+2<=(W2.setCell ⟨w.heap.size,q.ix c*2+1,none⟩ (.slice (q.db c) q.L (q.dc c))).heap.size:=by simpa using zD
    generalize hW3:W2.setCell ⟨w.heap.size,q.ix c*2+1,none⟩ (.slice (q.db c) q.L (q.dc c))=W3 at pl3 fi3 n3 ot3 be3 xu;have b0:=n3.cell (i:=0) ae;simp only[aF]at b0;have f0:=fi3.cell hix;have ff0:=fi3.frozen (q.ix c);rw[hn]at f0
    have fi4:=(fi3.set (q.ix c) (.bool true)).congr (g:=λt=>.bool (if t=q.ix c then some c else fl t).isSome) (λt _=>by
     by_cases e:t=q.ix c
     .rw[aj e];simp[e]
     .rw[ah e];simp[e])
    have pl4:=pl3.setOther (a:=⟨w.heap.size+1,q.ix c,none⟩) auH (.bool true);have ot4:=dF ot3 (a:=⟨w.heap.size+1,q.ix c,none⟩) (by show w.heap.size+1<w.heap.size+2;omega) (.bool true);have be4:=be3.setCell (p:=⟨w.heap.size+1,q.ix c,none⟩) auI (.bool true);have hs4:w.heap.size+2<=(W3.setCell ⟨w.heap.size+1,q.ix c,none⟩ (.bool true)).heap.size:=by simpa using xu
    have hPM:PM w k q (λx=>if x=q.ix c then some c else fl x) O u5 (W3.setCell ⟨w.heap.size+1,q.ix c,none⟩ (.bool true)):=⟨pl4,fi4,ot4,hs4,be4⟩;clear pl1 fi1 ot1 be1 x9 n0 fi2 n2 ot2 be2 zD pl3 fi3 n3 ot3 be3 xu fi4 pl4 ot4 be4 hs4 hM hP hcw;generalize q.ix c=x at*;generalize Uo q fl (x*2)=y0 at p0;generalize hy1:(if x*2+1=x*2 then Value.int .i64 ((x:Nat):Int)else Uo q fl (x*2+1))=y1 at p1;clear hy1;go_wp2
    go_roundw
    case rel=>exact⟨c+1,ae,aW,_,_,hP2,hPM⟩
    case measure=>simp[intOf];omega
   .have as6:¬(((q.ix c:Nat):Int)<(k:Int)):=ae;have hP2:=hP.other (show k<=q.ix c by omega)
    have hOl:O.length<=c:=by
     have h1:=hP.cnt;have h2:=akp fl (fC k)
     have:un fl k<=k:=by
      have:∀t,un fl t<=t:=λt=>by
       induction t with
       |zero=>exact ak _
       |succ t ih=>rw[un];have:e1 (fl t)<=1:=by{cases fl t<;>simp[e1]};omega
      exact this k
     omega
    have pl1:=(hM.pl.alloc (.cells #[.int .i64 ((q.ix c:Nat):Int),.slice (q.db c) q.L (q.dc c)] 143)).alloc (.cells #[.int .i64 ((q.ix c:Nat):Int),.slice (q.db c) q.L (q.dc c)] 143);have fi1:=(hM.fi.alloc (.cells #[.int .i64 ((q.ix c:Nat):Int),.slice (q.db c) q.L (q.dc c)] 143)).alloc (.cells #[.int .i64 ((q.ix c:Nat):Int),.slice (q.db c) q.L (q.dc c)] 143);have ot1:=(hM.ot.alloc (.cells #[.int .i64 ((q.ix c:Nat):Int),.slice (q.db c) q.L (q.dc c)] 143)).alloc (.cells #[.int .i64 ((q.ix c:Nat):Int),.slice (q.db c) q.L (q.dc c)] 143);have be1:=(hM.be.alloc hM.be.size (.cells #[.int .i64 ((q.ix c:Nat):Int),.slice (q.db c) q.L (q.dc c)] 143)).alloc (by have:=hM.be.size;simp;omega) (.cells #[.int .i64 ((q.ix c:Nat):Int),.slice (q.db c) q.L (q.dc c)] 143);have x9:w.heap.size+2<=((wr.alloc (.cells #[.int .i64 ((q.ix c:Nat):Int),.slice (q.db c) q.L (q.dc c)] 143)).alloc (.cells #[.int .i64 ((q.ix c:Nat):Int),.slice (q.db c) q.L (q.dc c)] 143)).heap.size:=az;have VP:=W9 (wr.alloc (.cells #[.int .i64 ((q.ix c:Nat):Int),.slice (q.db c) q.L (q.dc c)] 143)) (.int .i64 ((q.ix c:Nat):Int)) (.slice (q.db c) q.L (q.dc c)) 143;have esz:(wr.alloc (.cells #[.int .i64 ((q.ix c:Nat):Int),.slice (q.db c) q.L (q.dc c)] 143)).heap.size=wr.heap.size+1:=ai;rw[esz]at VP
    have apB:∀u∈[Value.int .i64 ((q.ix c:Nat):Int),Value.slice (q.db c) q.L (q.dc c)],u.oneCell'=true:=by exact axQ
    go_wp2_with(at_builtin;refine dG _ rfl _ _ 141 rfl (w.heap.size+2) 143 i0 (.agg #[.int .i64 0,.slice none 0 0]) 2 32 underlying141 Af x_ w_ wH rfl au _ _ _ rfl ot1 ⟨wr.heap.size+1,0,none⟩ 1 1 [.int .i64 ((q.ix c:Nat):Int),.slice (q.db c) q.L (q.dc c)] rfl rfl VP apB bH ae x9 ?_;intro v' w1 Ad tq _)
    have ot2:w1.ownsRow (w.heap.size+2) 143 2 v' (O++[c]).length (Ia q (O++[c])):=by rw[acg,aS];exact Ad
    have uy:=λj hj=>(ot1.lt j hj).1
    have AV:∀j,j<w.heap.size+2->w1.heap[j]?=((wr.alloc (.cells #[.int .i64 ((q.ix c:Nat):Int),.slice (q.db c) q.L (q.dc c)] 143)).alloc (.cells #[.int .i64 ((q.ix c:Nat):Int),.slice (q.db c) q.L (q.dc c)] 143)).heap[j]?:=λj hj=>tq.block j ae (λe=>by have:=uy j e.symm;omega)
    have hPM:PM w k q fl (O++[c]) v' w1:=⟨pl1.of_block (AV _ ae),fi1.of_block (AV _ ae),ot2,aJ x9 tq.size,be1.grown tq ae (λj hj=>by have:=uy j hj;omega)⟩;clear pl1 fi1 ot1 be1 Ad tq ot2 AV;go_wp2
    go_roundw
    case rel=>exact⟨c+1,ae,aW,_,_,hP2,hPM⟩
    case measure=>simp[intOf];omega
  .obtain rfl:c=k:=ae;have GH:¬((c:Int)<(c:Int)):=ae;have hpd:=hP.apF hi
   obtain⟨ad,ahj,g,rfl,KP,had,Rz,hgc⟩:∃ad ahj g,u5=.slice ad O.length ahj/\O.length<=ahj/\(0<O.length->ad=some ⟨g,0*2,none⟩)/\w.heap.size+2<=g/\∀m i,O[m]?=some i->wr.cell? ⟨g,m*2,none⟩=some (.int .i64 ((q.ix i:Nat):Int))/\wr.cell? ⟨g,m*2+1,none⟩=some (q.d i):=by
    rcases hM.ot.2 with⟨h1,h2⟩|⟨g,ahj,cur,h1,h2,h3,h4,h5,h6,h7⟩
    .refine⟨none,0,w.heap.size+2,?_,ae,λh=>absurd h ae,ak _,λm i hm=>?_⟩
     .rw[h2];exact h1
     .have:=(dS.1 hm).1;omega
    .refine⟨_,ahj,g,h1,ae,λ_=>rfl,h2,λm i hm=>?_⟩;have hml:=(dS.1 hm).1;have ho:=hM.ot;rw[h1]at ho;obtain⟨o1,o2⟩:=Vx q O m i hm;exact⟨by rw[ho.cellAt (m*2) ae];exact o1,by rw[ho.cellAt (m*2+1) ae];exact o2⟩
   have ano:=λt=>hP.room (t:=t)
   have hP1:=hP;clear hP;have pl0:wr.rowIs w.heap.size 143 (c*2) (Uo q λx=>if x<0 then some (sg fl O x)else fl x):=hM.pl.congr λj _=>by simp[Uo]
   have fi0:=hM.fi;have be0:=hM.be;have hsz:=hM.sz;clear hM;go_wp2
   go_loopw [5,42] (λvo vi wq=>∃t:Nat,t<=c/\vi=.int .i64 (t:Int)/\(∃ad c',vo=.slice ad (O.length-un fl t) c'/\O.length-un fl t<=c'/\(un fl t<O.length->ad=some ⟨g,un fl t*2,none⟩))/\wq.rowIs w.heap.size 143 (c*2) (Uo q λx=>if x<t then some (sg fl O x)else fl x)/\wq.rowIs (w.heap.size+1) 4 c (λt=>.bool (fl t).isSome)/\Below w.heap.size w wq/\(∀m i,O[m]?=some i->wq.cell? ⟨g,m*2,none⟩=some (.int .i64 ((q.ix i:Nat):Int))/\wq.cell? ⟨g,m*2+1,none⟩=some (q.d i))) (λ_ i _=>c-(intOf i).toNat)
   case atStart=>exact⟨0,ae,rfl,⟨ad,ahj,rfl,KP,had⟩,pl0,fi0,be0,hgc⟩
   case round=>
    clear pl0 fi0 be0 hgc had KP;obtain⟨t,ht,rfl,⟨ad,c',rfl,hc',had⟩,vP,hfi,hbe,hgc⟩:=hrel;by_cases ZY:t<c
    .have as7:(t:Int)<(c:Int):=ae;have f0:=hfi.cell ZY;cases hf:fl t with
     |some i=>
      rw[hf]at f0;have f0':wr.cell? ⟨w.heap.size+1,t,none⟩=some (.bool true):=f0;clear f0;have hun:un fl (t+1)=un fl t:=by rw[un,hf];rfl
      have apG:wr.rowIs w.heap.size 143 (c*2) (Uo q λx=>if x<t+1 then some (sg fl O x)else fl x):=vP.congr λj _=>by
       simp only[Uo];by_cases e:j/2=t
       .rw[e,ah ae,aj ae,hf];simp only[sg,hf]
       .by_cases e2:j/2<t
        .rw[aj e2,aj ae]
        .rw[ah e2,ah ae]
      rw[<-hun]at hc' had⊢;go_wp2
      go_roundw
      case rel=>exact⟨t+1,ae,aW,⟨ad,c',rfl,hc',had⟩,apG,hfi,hbe,hgc⟩
      case measure=>simp[intOf];omega
     |none=>
      rw[hf]at f0;have f0':wr.cell? ⟨w.heap.size+1,t,none⟩=some (.bool false):=f0;clear f0;have hm:=ano t ZY hf;have asl:=had hm;subst asl;clear had;have hun:un fl (t+1)=un fl t+1:=by rw[un,hf];rfl
      have hsg:O[un fl t]?=some (sg fl O t):=by simp only[sg,hf];rw[aO,a_ hm];rfl
      obtain⟨g0,g1⟩:=hgc _ _ hsg;have p0:=vP.cell (i:=t*2) ae;have pf0:=vP.frozen (t*2);have p1:=(vP.set (t*2) (.int .i64 ((q.ix (sg fl O t):Nat):Int))).cell (i:=t*2+1) ae;have pf1:=(vP.set (t*2) (.int .i64 ((q.ix (sg fl O t):Nat):Int))).frozen (t*2+1)
      have apG:=(afn (p:=t) (i:=sg fl O t) vP).congr (g:=Uo q λx=>if x<t+1 then some (sg fl O x)else fl x) λj _=>by
       simp only[Uo];by_cases e:j/2=t
       .rw[e,aj rfl,aj ae]
       .rw[ah e];by_cases e2:j/2<t
        .rw[aj e2,aj ae]
        .rw[ah e2,ah ae]
      have asn:=(hfi.setOther (a:=⟨w.heap.size,t*2,none⟩) o_ (.int .i64 ((q.ix (sg fl O t):Nat):Int))).setOther (a:=⟨w.heap.size,t*2+1,none⟩) o_ (q.d (sg fl O t));have aso:=(hbe.setCell (p:=⟨w.heap.size,t*2,none⟩) (ak _) (.int .i64 ((q.ix (sg fl O t):Nat):Int))).setCell (p:=⟨w.heap.size,t*2+1,none⟩) (ak _) (q.d (sg fl O t))
      have asq:∀m i,O[m]?=some i->((wr.setCell ⟨w.heap.size,t*2,none⟩ (.int .i64 ((q.ix (sg fl O t):Nat):Int))).setCell ⟨w.heap.size,t*2+1,none⟩ (q.d (sg fl O t))).cell? ⟨g,m*2,none⟩=some (.int .i64 ((q.ix i:Nat):Int))/\((wr.setCell ⟨w.heap.size,t*2,none⟩ (.int .i64 ((q.ix (sg fl O t):Nat):Int))).setCell ⟨w.heap.size,t*2+1,none⟩ (q.d (sg fl O t))).cell? ⟨g,m*2+1,none⟩=some (q.d i):=λm i hm=>by
       have e:((wr.setCell ⟨w.heap.size,t*2,none⟩ (.int .i64 ((q.ix (sg fl O t):Nat):Int))).setCell ⟨w.heap.size,t*2+1,none⟩ (q.d (sg fl O t))).heap[g]?=wr.heap[g]?:=by rw[jI _ _ _ _ (by show g≠w.heap.size;omega),jI _ _ _ _ (by show g≠w.heap.size;omega)]
       exact⟨(atV (a:=⟨g,m*2,none⟩) e).trans (hgc m i hm).1,(atV (a:=⟨g,m*2+1,none⟩) e).trans (hgc m i hm).2⟩
      have hlen:∃r,O.length-un fl t=r+1/\O.length-un fl (t+1)=r:=⟨O.length-un fl (t+1),ae,rfl⟩;obtain⟨r,xW,Gy⟩:=hlen;rw[xW]at hc'⊢;clear hgc hsg vP hfi hbe ano hP1 hpd hi;simp only[CL.d]at*;generalize sg fl O t=z at*;generalize q.ix z=x at*;generalize hy0:Uo q (λx=>if x<t then some (sg fl O x)else fl x) (t*2)=y0 at p0;generalize hy1:(if t*2+1=t*2 then Value.int .i64 ((x:Nat):Int)else Uo q (λx=>if x<t then some (sg fl O x)else fl x) (t*2+1))=y1 at p1;clear hy0 hy1;go_wp2
      go_roundw
      case rel=>
       refine⟨t+1,ae,aW,⟨_,c'-1,by rw[Gy],ae,λh=>?_⟩,apG,asn,aso,asq⟩;rw[ah ae,hun,show(un fl t+1)*2=un fl t*2+2 by omega]
      case measure=>simp[intOf];omega
    .obtain rfl:t=c:=ae;have GH:¬((t:Int)<(t:Int)):=ae;go_wp2;go_ret;exact⟨sg fl O,rfl,hpd,vP.congr λj hj=>by simp only[Uo];rw[aj ae],hbe⟩
