import Derived.Deep.AppendLies
import Derived.Test.YtnbflnamlpodcaaGreatDoorSvH
import Derived.BigQuiet
set_option maxHeartbeats 4000000
set_option maxRecDepth 100000
namespace Go.Proofs.Y
open Go.RowKit Go.Deep
def Yw(c:Int):Int:=if c<0 then-(c+1)else c
def x9(c:Int)(n:Nat):Nat:=(Yw c).toNat%n
theorem x_(c:Int){n:Nat}(h:0<n):x9 c n<n:=gW _ h
theorem pick_any(c:Int)(n:Nat)(z:Int)(hz:z=(n:Int))(h0: -9223372036854775808<=c)(h1:c<9223372036854775808)(hn:0<n)(hn2:n<9223372036854775808)(w:World):
  Calls Tryz.prog 10 #[.int .i64 c,.int .i64 z] w λe w'=>e=.returned (.int .i64 ((x9 c n:Nat):Int))/\w'=w:=by
 subst hz;by_cases hc:c<0
 .obtain⟨m,hm⟩:∃m:Nat,c= -((m:Int)+1):=⟨(-(c+1)).toNat,ae⟩
  have e: -((c+1).tmod n)=((x9 c n:Nat):Int):=by
   have e1:c+1= -(m:Int):=ae;have e2:Yw c=(m:Int):=by unfold Yw;rw[aj hc];omega
   rw[e1,Int.neg_tmod,Int.neg_neg,x9,e2];rfl
  clear hm;go_enter Tryz.func10,Tryz.ntmps10;go_wp2;go_ret;exact⟨by rw[<-e];rfl,rfl⟩
 .obtain⟨m,rfl⟩:∃m:Nat,c=(m:Int):=⟨c.toNat,ae⟩
  have e:(m:Int)%n=((x9 m n:Nat):Int):=by
   have e2:Yw m=(m:Int):=by unfold Yw;rw[ah hc]
   rw[x9,e2];rfl
  go_enter Tryz.func10,Tryz.ntmps10;go_wp2;go_ret;exact⟨by rw[<-e];rfl,rfl⟩
def prm(k n c:Nat):Value:=.agg #[.int .i64 (k:Int),.int .i64 (n:Int),.int .i64 (c:Int)]
def Ie(n:Int):Nat:=1+x9 n 12
def TU(k n:Int):Nat:=1+x9 k (Ie n)
theorem Vh(n:Int):1<=Ie n/\Ie n<=12:=by have:=x_ n (show 0<12 by omega);unfold Ie;omega
theorem agA(k n:Int):1<=TU k n/\TU k n<=Ie n:=by have:=Vh n;have:=x_ k (show 0<Ie n by omega);unfold TU;omega
def In64(c:Int):Prop:= -9223372036854775808<=c/\c<9223372036854775808
structure Ints(w:World)(v:Value)(zs:List Int):Prop where
 aaA:∀z∈zs,In64 z
 lies:(∃cap bo,zs=[]/\v=.slice bo 0 cap)\/∃b off cap,v=.slice (some ⟨b,off,none⟩) zs.length cap/\b<w.heap.size/\∀j z,zs[j]?=some z->w.cell? ⟨b,off+j,none⟩=some (.int .i64 z)
theorem Ints.open{w:World}{v:Value}{zs:List Int}(h:Ints w v zs):∃bo cap,v=.slice bo zs.length cap/\(0<zs.length->∃b off,bo=some ⟨b,off,none⟩/\b<w.heap.size/\∀j z,zs[j]?=some z->w.cell? ⟨b,off+j,none⟩=some (.int .i64 z)):=by
 rcases h.lies with⟨cap,bo,rfl,rfl⟩|⟨b,off,cap,h1,h2,h3⟩
 .exact⟨bo,cap,rfl,λh=>absurd h ai⟩
 .exact⟨_,cap,h1,λ_=>⟨b,off,rfl,h2,h3⟩⟩
structure Once(n:Nat)(xs:List Nat):Prop where
 len:xs.length=n
 lt:∀(i x:Nat),xs[i]?=some x->x<n
 inj:∀(i j x:Nat),xs[i]?=some x->xs[j]?=some x->i=j
theorem aaC(n:Nat):Once n (List.range n):=by
 refine⟨ai,λi x h=>?_,λi j x h h'=>?_⟩
 .rw[dH]at h;obtain⟨h1,h2⟩:=h;simp at h1 h2;omega
 .rw[dH]at h h';obtain⟨h1,h2⟩:=h;obtain⟨h3,h4⟩:=h';simp at h2 h4;omega
def Ut(xs:List Nat)(a b:Nat):List Nat:=(xs.set a (xs.getD b 0)).set b (xs.getD a 0)
theorem Once.swap{n:Nat}{xs:List Nat}(h:Once n xs){a b:Nat}(ha:a<n)(hb:b<n):Once n (Ut xs a b):=by
 have hl:=h.len;have ea:xs[a]?=some (xs.getD a 0):=by rw[aO,aY ae];rfl
 have eb:xs[b]?=some (xs.getD b 0):=by rw[aO,aY ae];rfl
 have sw:∀(i x:Nat),(Ut xs a b)[i]?=some x->xs[if i=b then a else if i=a then b else i]?=some x:=by
  intro i x hx;unfold Ut at hx;rw[kG]at hx;by_cases hib:b=i
  .subst hib;rw[aj rfl]at hx;rw[aj rfl];split at hx
   .cases hx;exact ea
   .cases hx
  .rw[ah hib,kG]at hx;rw[ah (λe=>hib e.symm)];by_cases hia:a=i
   .subst hia;rw[aj rfl]at hx;rw[aj rfl];split at hx
    .cases hx;exact eb
    .cases hx
   .rw[ah hia]at hx;rw[ah (λe=>hia e.symm)];exact hx
 refine⟨by simp[Ut,hl],λi x hx=>h.lt _ x (sw i x hx),λi j x hi hj=>?_⟩;have:=h.inj _ _ x (sw i x hi) (sw j x hj);split at this<;>split at this<;>(try split at this)<;>(try split at this)<;>omega
def Ih(xs:List Nat):List Value:=xs.map λx=>.int .i64 ((x:Nat):Int)
theorem Yx(xs:List Nat)(i:Nat)(h:i<xs.length):(Ih xs)[i]?=some (.int .i64 ((xs.getD i 0:Nat):Int)):=by unfold Ih;rw[bQ,aY h,aO,aY h];rfl
theorem adi(xs:List Nat)(a b:Nat):((Ih xs).set a (.int .i64 ((xs.getD b 0:Nat):Int))).set b (.int .i64 ((xs.getD a 0:Nat):Int))=Ih (Ut xs a b):=by unfold Ih Ut;rw[anQ,anQ]
theorem Tryz.afV:(Tryz.prog.info? 3).map (λi=>(i.zero,i.size,i.bytes))=some (some (.int .i64 0),1,8):=ag
theorem agB(x:Int):∀u∈[Value.int .i64 x],u.oneCell'=true:=mW
theorem aaz(n:Nat)(vo:Value)(zs:List Int)(hn:0<n)(hn2:n<=12)(w:World)(hz:Ints w vo zs)(hlen:zs.length<9223372036854775807):
  Calls Tryz.prog 9 #[.int .i64 (n:Int),vo] w λe w'=>∃v xs,e=.returned v/\Once n xs/\w'.ownsRow w.heap.size 3 1 v n (Ih xs)/\Below w.heap.size w w':=by
 obtain⟨i0,hi0,hz0,hz1,hz2⟩:=bg Tryz.afV;go_enter Tryz.func9,Tryz.ntmps9;go_wp2
 go_loopw [5,6] (λv vi wr=>∃c:Nat,c<=n/\vi=.int .i64 (c:Int)/\wr.ownsRow w.heap.size 3 1 v c (Ih (List.range c))/\Below w.heap.size w wr) (λ_ i _=>n-(intOf i).toNat)
 case atStart=>exact⟨0,ae,rfl,bT _ _ _ _,aA _ _⟩
 case round=>
  obtain⟨c,hc,rfl,hown,hbel⟩:=hrel;have hsz:=hbel.size;by_cases hlt:c<n
  .go_wp2_with(at_builtin;refine dF _ rfl _ _ 22 rfl w.heap.size 3 i0 (.int .i64 0) 1 8 Tryz.underlying22 hi0 hz0 hz1 hz2 rfl au _ _ _ rfl (hown.alloc _) ⟨wr.heap.size,0,none⟩ 1 1 [.int .i64 (c:Int)] rfl rfl (cell_one_new _ _ _) (agB _) bH ae az ?_;intro v' w1 hown' hgrow _)
   have hown2:w1.ownsRow w.heap.size 3 1 v' (c+1) (Ih (List.range (c+1))):=by rw[dm,Ih,iC];exact hown'
   have hb2:=Vb hbel hown hgrow;clear hown' hgrow;go_wp2
   go_roundw
   case rel=>exact⟨c+1,ae,aV,hown2,hb2⟩
   case measure=>simp[intOf];omega
  .have e:c=n:=ae;subst e;obtain⟨g,cap,rfl,hg1,hg2⟩:=hown.form hn;have hst:∃xs,Once c xs/\wr.ownsRow w.heap.size 3 1 (.slice (some ⟨g,0,none⟩) c cap) c (Ih xs):=⟨_,aaC c,hown⟩;clear hown;have hcc:=hn2;obtain⟨bo,cap2,rfl,hop⟩:=hz.open;go_wp2
   go_loopw [7,8,9] (λvi _ _ wq=>∃j:Nat,j<=zs.length/\vi=.int .i64 (j:Int)/\(∃xs,Once c xs/\wq.ownsRow w.heap.size 3 1 (.slice (some ⟨g,0,none⟩) c cap) c (Ih xs))/\Below w.heap.size w wq) (λi _ _ _=>zs.length-(intOf i).toNat)
   case atStart=>exact⟨0,ae,rfl,hst,hbel⟩
   case round=>
    clear hst hbel;obtain⟨j,hj,rfl,⟨xs,hxs,hown⟩,hbel⟩:=hrel;by_cases hlt:j<zs.length
    .obtain⟨b,off,rfl,hb,hcell⟩:=hop ae;have hlt':(j:Int)<(zs.length:Int):=ae;have hzj:zs[j]?=some (zs.getD j 0):=by rw[aO,aY hlt];rfl
     have hc0:=hcell j _ hzj;rw[<-hbel.cell (p:=⟨b,off+j,none⟩) hb]at hc0;have hin:=hz.aaA _ (iy hzj);have hp:=pick_any (zs.getD j 0) c c rfl hin.1 hin.2 hn ae;have hpl:=x_ (zs.getD j 0) hn;generalize zs.getD j 0=z at hc0 hin hp hpl hzj;generalize x9 z c=q at hp hpl;have hm:=gW j hn;have em:(j:Int)%(c:Int)=((j%c:Nat):Int):=rfl;generalize j%c=p at hm em;have l1:p<xs.length:=by rw[hxs.len];exact hm
     have l2:q<xs.length:=by rw[hxs.len];exact hpl
     have hxp:=Yx xs p l1;have hxq:=Yx xs q l2;rw[<-hown.cellAt p ae]at hxp;rw[<-hown.cellAt q ae]at hxq;have f1:=hown.frozenAt p;have f2:=hown.frozenAt q;have hsw:=hxs.swap hm hpl;have hst1:=(hown.stored p (.int .i64 ((xs.getD q 0:Nat):Int))).1;have hst2:=(hst1.stored q (.int .i64 ((xs.getD p 0:Nat):Int))).1;rw[adi]at hst2
     have d1:∃y,(wr.setCell ⟨g,p,none⟩ (.int .i64 ((xs.getD q 0:Nat):Int))).cell? ⟨g,q,none⟩=some y:=by rw[hst1.cellAt q ae];exact⟨_,aY (by simp[Ih];exact l2)⟩
     have d2:=hst1.frozenAt q;obtain⟨y,d1⟩:=d1;generalize xs.getD p 0=xp at*;generalize xs.getD q 0=xq at*;clear hst1 hzj hin hxs hop hz l1 l2
     go_wp2_with(first|(go_at_call 10;(with_reducible refine(hp _).mono ?_);rintro e w' ⟨rfl,hw'⟩;obtain rfl:=hw'.symm;simp only[em]))
     have hb3:Below w.heap.size w ((wr.setCell ⟨g,p,none⟩ (.int .i64 (xq:Int))).setCell ⟨g,q,none⟩ (.int .i64 (xp:Int))):=(hbel.setCell hg1 _).setCell hg1 _;go_region;generalize(wr.setCell ⟨g,p,none⟩ (.int .i64 (xq:Int))).setCell ⟨g,q,none⟩ (.int .i64 (xp:Int))=wz at hst2 hb3⊢;have hst3:=hst2.drew;have hb4:Below w.heap.size w wz.drew:=hb3.drew;clear hst2 hb3;go_wp2
     go_roundw
     case rel=>exact⟨j+1,ae,aV,⟨_,hsw,hst3⟩,hb4⟩
     case measure=>simp[intOf];omega
    .have e:j=zs.length:=ae;subst e;go_wp2;go_ret;exact⟨_,xs,rfl,hxs,hown,hbel⟩
theorem Tryz.aiG:(Tryz.prog.info? 143).map (λi=>(i.zero,i.size,i.bytes))=some (some (.agg #[.int .i64 0,.slice none 0 0]),2,32):=ag
theorem Tryz.aks:(Tryz.prog.info? 4).map (λi=>(i.zero,i.size,i.bytes))=some (some (.bool false),1,1):=ag
theorem aef{w:World}{b o:Nat}{v:Value}(h:w.cell? ⟨b,o,none⟩=some v):b<w.heap.size:=block_lt_of_cell h
structure CL where
 L:Nat
 ix:Nat->Nat
 db:Nat->Option Addr
 dc:Nat->Nat
def CL.d(q:CL)(i:Nat):Value:=.slice (q.db i) q.L (q.dc i)
structure CAt(w:World)(b k:Nat)(q:CL):Prop where
 lt:b<w.heap.size
 c0:∀i,i<k->w.cell? ⟨b,i*2,none⟩=some (.int .i64 ((q.ix i:Nat):Int))
 c1:∀i,i<k->w.cell? ⟨b,i*2+1,none⟩=some (q.d i)
structure CO(w:World)(b o n:Nat)(q:CL):Prop where
 lt:b<w.heap.size
 c0:∀i,i<n->w.cell? ⟨b,o+i*2,none⟩=some (.int .i64 ((q.ix i:Nat):Int))
 c1:∀i,i<n->w.cell? ⟨b,o+i*2+1,none⟩=some (.slice (q.db i) q.L (q.dc i))
theorem CO.below{w w':World}{b o n B:Nat}{q:CL}(h:CO w b o n q)(hb:Below B w w')(hB:w.heap.size<=B):CO w' b o n q:=
 ⟨aN h.lt hb.size,λi hi=>(hb.cell (p:=⟨b,_,none⟩) (aN h.lt hB)).trans (h.c0 i hi),λi hi=>(hb.cell (p:=⟨b,_,none⟩) (aN h.lt hB)).trans (h.c1 i hi)⟩
def cvv(q:CL)(o:Option Nat)(p:Nat):Value:=match o with
 |some i=>if p=0 then .int .i64 ((q.ix i:Nat):Int)else q.d i
 |none=>if p=0 then .int .i64 0 else .slice none 0 0
def PK(q:CL)(fl:Nat->Option Nat)(j:Nat):Value:=cvv q (fl (j/2)) (j%2)
def EU(q:CL)(O:List Nat):List Value:=O.flatMap λi=>[.int .i64 ((q.ix i:Nat):Int),q.d i]
theorem QU(q:CL):∀(O:List Nat)(m i:Nat),O[m]?=some i->(EU q O)[m*2]?=some (.int .i64 ((q.ix i:Nat):Int))/\(EU q O)[m*2+1]?=some (q.d i)
 |[],m,i,h=>by simp at h
 |x::O,0,i,h=>by simp at h;subst h;exact⟨rfl,rfl⟩
 |x::O,m+1,i,h=>by have:=QU q O m i oq;have e:EU q (x::O)=.int .i64 ((q.ix x:Nat):Int)::q.d x::EU q O:=rfl;rw[e,show(m+1)*2=m*2+1+1 by omega];simp only[iM];exact this
theorem Yy(q:CL)(O:List Nat)(c:Nat):EU q (O++[c])=EU q O++[.int .i64 ((q.ix c:Nat):Int),q.d c]:=by simp[EU]
theorem Sv(w:World)(x y:Value)(t:TypeId):∀j u,[x,y][j]?=some u->(w.alloc (.cells #[x,y] t)).cell? ((⟨w.heap.size,0,none⟩:Addr).add j)=some u:=by
 intro j u hj
 match j,hj with
 |0,hj=>
  simp at hj;subst hj;simp[Addr.add]
 |1,hj=>
  simp at hj;subst hj;simp[Addr.add]
theorem abw{w:World}{b k p i:Nat}{q:CL}{fl:Nat->Option Nat}(h:w.rowIs b 143 (k*2) (PK q fl)):
  ((w.setCell ⟨b,p*2,none⟩ (.int .i64 ((q.ix i:Nat):Int))).setCell ⟨b,p*2+1,none⟩ (q.d i)).rowIs b 143 (k*2) (PK q λx=>if x=p then some i else fl x):=
 ((h.set (p*2) _).set (p*2+1) _).congr λj _=>by
   unfold PK;by_cases e1:j=p*2+1
   .subst e1;rw[aj rfl,show(p*2+1)/2=p by omega,show(p*2+1)%2=1 by omega];dsimp only;rw[aj rfl];rfl
   .rw[ah e1];by_cases e2:j=p*2
    .subst e2;rw[aj rfl,show p*2/2=p by omega,show p*2%2=0 by omega];dsimp only;rw[aj rfl];rfl
    .rw[ah e2];dsimp only;rw[ah ae]
structure PM(w:World)(k:Nat)(q:CL)(fl:Nat->Option Nat)(O:List Nat)(vo:Value)(w':World):Prop where
 pl:w'.rowIs w.heap.size 143 (k*2) (PK q fl)
 fi:w'.rowIs (w.heap.size+1) 4 k (λt=>.bool (fl t).isSome)
 ot:w'.ownsRow (w.heap.size+2) 143 2 vo O.length (EU q O)
 sz:w.heap.size+2<=w'.heap.size
 be:Below w.heap.size w w'
theorem adk(w:World)(k:Nat)(q:CL):(w.alloc (.cells (madeCells #[.int .i64 0,.slice none 0 0] (k*2)) 143)).rowIs w.heap.size 143 (k*2) (PK q λ_=>none):=by
 have:=World.rowIs_alloc w (madeCells #[.int .i64 0,.slice none 0 0] (k*2)) 143 (PK q λ_=>none) (λi hi=>by rw[gK]at hi;have h2:i%2=0\/i%2=1:=ae;unfold madeCells PK cvv;rw[nZ,Array.getElem?_range];rw[aj hi];rcases h2 with h|h<;>simp[h])
 rwa[gK]at this
theorem Tq(k:Nat)(hk:k<=128)(w:World):(Instr.makeSlice 141 (.int .i64 (k:Int)) (.int .i64 (k:Int))).run Tryz.prog w=.ok (.slice (some ⟨w.heap.size,0,none⟩) k k) (w.alloc (.cells (madeCells #[.int .i64 0,.slice none 0 0] (k*2)) 143)):=by obtain⟨i0,hi0,hz0,hz1,hz2⟩:=bg Tryz.aiG;have:=iZ (P:=Tryz.prog) w 141 143 i0 _ Tryz.underlying141 hi0 hz0 .i64 .i64 k k ae (Int.le_refl _) fO ae;exact aqo
theorem aaD(k:Nat)(hk:k<=128)(w:World):(Instr.makeSlice 216 (.int .i64 (k:Int)) (.int .i64 (k:Int))).run Tryz.prog w=.ok (.slice (some ⟨w.heap.size,0,none⟩) k k) (w.alloc (.cells (madeCells #[.bool false] k) 4)):=
 run_make_row' (P:=Tryz.prog) 216 4 (.bool false) 1 Tryz.underlying216 Tryz.aks rfl .i64 .i64 k ae ae w
theorem agC(w:World)(k:Nat)(q:CL):PM w k q (λ_=>none) [] (.slice none 0 0) ((w.alloc (.cells (madeCells #[.int .i64 0,.slice none 0 0] (k*2)) 143)).alloc (.cells (madeCells #[.bool false] k) 4)):=by refine⟨(adk w k q).alloc _,?_,bT _ _ _ _,ai,((aA _ _).alloc (ak _) _).alloc ai _⟩;have:=World.rowIs_made (w.alloc (.cells (madeCells #[.int .i64 0,.slice none 0 0] (k*2)) 143)) (.bool false) k 4;exact aqb
def adl(k:Nat)(q:CL)(w:World)(e:Ending)(w':World):Prop:=
 ∃σ,e=.returned (.slice (some ⟨w.heap.size,0,none⟩) k k)/\IZ k q.ix σ/\w'.rowIs w.heap.size 143 (k*2) (PK q λt=>some (σ t))/\Below w.heap.size w w'
theorem aec(k b o cap:Nat)(q:CL)(w:World)(hk:k<=128)(hx:∀i,i<k->q.ix i<128)(hc:CO w b o k q)(hi:∀i j,i<k->j<k->i≠j->q.ix i≠q.ix j):
  Calls Tryz.prog 108 #[.slice (some ⟨b,o,none⟩) k cap] w λe w'=>adl k q w e w':=by
 obtain⟨i0,hi0,hz0,hz1,hz2⟩:=bg Tryz.aiG;have m1:=Tq k hk w;have m2:=aaD k hk (w.alloc (.cells (madeCells #[.int .i64 0,.slice none 0 0] (k*2)) 143));have h0:=agC w k q;generalize madeCells #[.int .i64 0,.slice none 0 0] (k*2)=Z1 at m1 m2 h0;generalize madeCells #[.bool false] k=Z2 at m2 h0;go_enter Tryz.func108,Tryz.ntmps108;go_wp2;clear m1 m2;generalize(w.alloc (Obj.cells Z1 143)).alloc (Obj.cells Z2 4)=w0 at h0⊢
 go_loopw [5,17] (λvo vi wr=>∃c:Nat,c<=k/\vi=.int .i64 (c:Int)/\∃fl O,Pl k q.ix c fl O/\PM w k q fl O vo wr) (λ_ i _=>k-(intOf i).toNat)
 case atStart=>exact⟨0,ae,rfl,_,_,agy k q.ix,h0⟩
 case round=>
  clear h0;obtain⟨c,hcc,rfl,fl,O,hP,hM⟩:=hrel;by_cases hlt:c<k
  .have hlt':(c:Int)<(k:Int):=ae;have hcw:=hc.below hM.be (ak _);have g0:=hcw.c0 c hlt;have g1:=hcw.c1 c hlt;have hbl:=hcw.lt;have hsz:=hM.sz;by_cases hix:q.ix c<k
   .have hix':((q.ix c:Nat):Int)<(k:Int):=ae;obtain⟨hn,hP2⟩:=hP.own (λi hic=>hi i c ae hlt ae) hix;have pl1:=hM.pl.alloc (.cells #[.int .i64 ((q.ix c:Nat):Int),.slice (q.db c) q.L (q.dc c)] 143);have fi1:=hM.fi.alloc (.cells #[.int .i64 ((q.ix c:Nat):Int),.slice (q.db c) q.L (q.dc c)] 143);have ot1:=hM.ot.alloc (.cells #[.int .i64 ((q.ix c:Nat):Int),.slice (q.db c) q.L (q.dc c)] 143);have be1:=hM.be.alloc hM.be.size (.cells #[.int .i64 ((q.ix c:Nat):Int),.slice (q.db c) q.L (q.dc c)] 143);have hs1:w.heap.size+2<=(wr.alloc (.cells #[.int .i64 ((q.ix c:Nat):Int),.slice (q.db c) q.L (q.dc c)] 143)).heap.size:=az
    have n0:(wr.alloc (.cells #[.int .i64 ((q.ix c:Nat):Int),.slice (q.db c) q.L (q.dc c)] 143)).rowIs wr.heap.size 143 2 (λj=>if j=0 then .int .i64 ((q.ix c:Nat):Int)else .slice (q.db c) q.L (q.dc c)):=
     World.rowIs_alloc wr #[.int .i64 ((q.ix c:Nat):Int),.slice (q.db c) q.L (q.dc c)] 143 _ (λi hi=>by have:i=0\/i=1:=iF;rcases this with rfl|rfl<;>rfl)
    generalize hW1:wr.alloc (.cells #[.int .i64 ((q.ix c:Nat):Int),.slice (q.db c) q.L (q.dc c)] 143)=W1 at pl1 fi1 ot1 be1 hs1 n0;have a0:=n0.cell (i:=0) ae;have a1:=n0.cell (i:=1) ae;have af0:=n0.frozen 0;have af1:=n0.frozen 1;simp only[aF,jF,aU]at a0 a1;have p0:=pl1.cell (i:=q.ix c*2) ae;have pf0:=pl1.frozen (q.ix c*2);have hne:wr.heap.size≠w.heap.size:=ae;have pl3:=abw (p:=q.ix c) (i:=c) pl1;unfold CL.d at pl3;have p1:=(pl1.set (q.ix c*2) (.int .i64 ((q.ix c:Nat):Int))).cell (i:=q.ix c*2+1) ae;have pf1:=(pl1.set (q.ix c*2) (.int .i64 ((q.ix c:Nat):Int))).frozen (q.ix c*2+1);have fi2:=fi1.setOther (a:=⟨w.heap.size,q.ix c*2,none⟩) oO (.int .i64 ((q.ix c:Nat):Int));have n2:=n0.setOther (a:=⟨w.heap.size,q.ix c*2,none⟩) hne (.int .i64 ((q.ix c:Nat):Int));have ot2:=dE ot1 (a:=⟨w.heap.size,q.ix c*2,none⟩) apn (.int .i64 ((q.ix c:Nat):Int));have be2:=be1.setCell (p:=⟨w.heap.size,q.ix c*2,none⟩) (ak _) (.int .i64 ((q.ix c:Nat):Int));have hs2:w.heap.size+2<=(W1.setCell ⟨w.heap.size,q.ix c*2,none⟩ (.int .i64 ((q.ix c:Nat):Int))).heap.size:=by simpa using hs1
    generalize hW2:W1.setCell ⟨w.heap.size,q.ix c*2,none⟩ (.int .i64 ((q.ix c:Nat):Int))=W2 at pl3 p1 pf1 fi2 n2 ot2 be2 hs2;have fi3:=fi2.setOther (a:=⟨w.heap.size,q.ix c*2+1,none⟩) oO (.slice (q.db c) q.L (q.dc c));have n3:=n2.setOther (a:=⟨w.heap.size,q.ix c*2+1,none⟩) hne (.slice (q.db c) q.L (q.dc c));have ot3:=dE ot2 (a:=⟨w.heap.size,q.ix c*2+1,none⟩) apn (.slice (q.db c) q.L (q.dc c));have be3:=be2.setCell (p:=⟨w.heap.size,q.ix c*2+1,none⟩) (ak _) (.slice (q.db c) q.L (q.dc c));have hs3:w.heap.size+2<=(W2.setCell ⟨w.heap.size,q.ix c*2+1,none⟩ (.slice (q.db c) q.L (q.dc c))).heap.size:=by simpa using hs2
    generalize hW3:W2.setCell ⟨w.heap.size,q.ix c*2+1,none⟩ (.slice (q.db c) q.L (q.dc c))=W3 at pl3 fi3 n3 ot3 be3 hs3;have b0:=n3.cell (i:=0) ae;simp only[aF]at b0;have f0:=fi3.cell hix;have ff0:=fi3.frozen (q.ix c);rw[hn]at f0
    have fi4:=(fi3.set (q.ix c) (.bool true)).congr (g:=λt=>.bool (if t=q.ix c then some c else fl t).isSome) (λt _=>by
     by_cases e:t=q.ix c
     .rw[aj e];simp[e]
     .rw[ah e];simp[e])
    have pl4:=pl3.setOther (a:=⟨w.heap.size+1,q.ix c,none⟩) aol (.bool true);have ot4:=dE ot3 (a:=⟨w.heap.size+1,q.ix c,none⟩) (by show w.heap.size+1<w.heap.size+2;omega) (.bool true);have be4:=be3.setCell (p:=⟨w.heap.size+1,q.ix c,none⟩) aom (.bool true);have hs4:w.heap.size+2<=(W3.setCell ⟨w.heap.size+1,q.ix c,none⟩ (.bool true)).heap.size:=by simpa using hs3
    have hPM:PM w k q (λx=>if x=q.ix c then some c else fl x) O u5 (W3.setCell ⟨w.heap.size+1,q.ix c,none⟩ (.bool true)):=⟨pl4,fi4,ot4,hs4,be4⟩;clear pl1 fi1 ot1 be1 hs1 n0 fi2 n2 ot2 be2 hs2 pl3 fi3 n3 ot3 be3 hs3 fi4 pl4 ot4 be4 hs4 hM hP hcw;generalize q.ix c=x at*;generalize PK q fl (x*2)=y0 at p0;generalize hy1:(if x*2+1=x*2 then Value.int .i64 ((x:Nat):Int)else PK q fl (x*2+1))=y1 at p1;clear hy1;go_wp2
    go_roundw
    case rel=>exact⟨c+1,ae,aV,_,_,hP2,hPM⟩
    case measure=>simp[intOf];omega
   .have hix':¬(((q.ix c:Nat):Int)<(k:Int)):=ae;have hP2:=hP.other (show k<=q.ix c by omega)
    have hOl:O.length<=c:=by
     have h1:=hP.cnt;have h2:=agx fl (gV k)
     have:un fl k<=k:=by
      have:∀t,un fl t<=t:=λt=>by
       induction t with
       |zero=>exact ak _
       |succ t ih=>rw[un];have:e1 (fl t)<=1:=by{cases fl t<;>simp[e1]};omega
      exact this k
     omega
    have pl1:=(hM.pl.alloc (.cells #[.int .i64 ((q.ix c:Nat):Int),.slice (q.db c) q.L (q.dc c)] 143)).alloc (.cells #[.int .i64 ((q.ix c:Nat):Int),.slice (q.db c) q.L (q.dc c)] 143);have fi1:=(hM.fi.alloc (.cells #[.int .i64 ((q.ix c:Nat):Int),.slice (q.db c) q.L (q.dc c)] 143)).alloc (.cells #[.int .i64 ((q.ix c:Nat):Int),.slice (q.db c) q.L (q.dc c)] 143);have ot1:=(hM.ot.alloc (.cells #[.int .i64 ((q.ix c:Nat):Int),.slice (q.db c) q.L (q.dc c)] 143)).alloc (.cells #[.int .i64 ((q.ix c:Nat):Int),.slice (q.db c) q.L (q.dc c)] 143);have be1:=(hM.be.alloc hM.be.size (.cells #[.int .i64 ((q.ix c:Nat):Int),.slice (q.db c) q.L (q.dc c)] 143)).alloc (by have:=hM.be.size;simp;omega) (.cells #[.int .i64 ((q.ix c:Nat):Int),.slice (q.db c) q.L (q.dc c)] 143);have hs1:w.heap.size+2<=((wr.alloc (.cells #[.int .i64 ((q.ix c:Nat):Int),.slice (q.db c) q.L (q.dc c)] 143)).alloc (.cells #[.int .i64 ((q.ix c:Nat):Int),.slice (q.db c) q.L (q.dc c)] 143)).heap.size:=az;have hnews:=Sv (wr.alloc (.cells #[.int .i64 ((q.ix c:Nat):Int),.slice (q.db c) q.L (q.dc c)] 143)) (.int .i64 ((q.ix c:Nat):Int)) (.slice (q.db c) q.L (q.dc c)) 143;have esz:(wr.alloc (.cells #[.int .i64 ((q.ix c:Nat):Int),.slice (q.db c) q.L (q.dc c)] 143)).heap.size=wr.heap.size+1:=ai;rw[esz]at hnews
    have hone:∀u∈[Value.int .i64 ((q.ix c:Nat):Int),Value.slice (q.db c) q.L (q.dc c)],u.oneCell'=true:=by exact arO
    go_wp2_with(at_builtin;refine dF _ rfl _ _ 141 rfl (w.heap.size+2) 143 i0 (.agg #[.int .i64 0,.slice none 0 0]) 2 32 Tryz.underlying141 hi0 hz0 hz1 hz2 rfl au _ _ _ rfl ot1 ⟨wr.heap.size+1,0,none⟩ 1 1 [.int .i64 ((q.ix c:Nat):Int),.slice (q.db c) q.L (q.dc c)] rfl rfl hnews hone bH ae hs1 ?_;intro v' w1 hown' hgrow _)
    have ot2:w1.ownsRow (w.heap.size+2) 143 2 v' (O++[c]).length (EU q (O++[c])):=by rw[Yy,aQ];exact hown'
    have hlow:=λj hj=>(ot1.lt j hj).1
    have keep:∀j,j<w.heap.size+2->w1.heap[j]?=((wr.alloc (.cells #[.int .i64 ((q.ix c:Nat):Int),.slice (q.db c) q.L (q.dc c)] 143)).alloc (.cells #[.int .i64 ((q.ix c:Nat):Int),.slice (q.db c) q.L (q.dc c)] 143)).heap[j]?:=λj hj=>hgrow.block j ae (λe=>by have:=hlow j e.symm;omega)
    have hPM:PM w k q fl (O++[c]) v' w1:=⟨pl1.of_block (keep _ ae),fi1.of_block (keep _ ae),ot2,aK hs1 hgrow.size,be1.grown hgrow ae (λj hj=>by have:=hlow j hj;omega)⟩;clear pl1 fi1 ot1 be1 hown' hgrow ot2 keep;go_wp2
    go_roundw
    case rel=>exact⟨c+1,ae,aV,_,_,hP2,hPM⟩
    case measure=>simp[intOf];omega
  .obtain rfl:c=k:=ae;have hnl:¬((c:Int)<(c:Int)):=ae;have hpd:=hP.placed hi
   obtain⟨ad,cap5,g,rfl,hcl,had,hg1,hgc⟩:∃ad cap5 g,u5=.slice ad O.length cap5/\O.length<=cap5/\(0<O.length->ad=some ⟨g,0*2,none⟩)/\w.heap.size+2<=g/\∀m i,O[m]?=some i->wr.cell? ⟨g,m*2,none⟩=some (.int .i64 ((q.ix i:Nat):Int))/\wr.cell? ⟨g,m*2+1,none⟩=some (q.d i):=by
    rcases hM.ot.2 with⟨h1,h2⟩|⟨g,cap5,cur,h1,h2,h3,h4,h5,h6,h7⟩
    .refine⟨none,0,w.heap.size+2,?_,ae,λh=>absurd h ae,ak _,λm i hm=>?_⟩
     .rw[h2];exact h1
     .have:=(dH.1 hm).1;omega
    .refine⟨_,cap5,g,h1,ae,λ_=>rfl,h2,λm i hm=>?_⟩;have hml:=(dH.1 hm).1;have ho:=hM.ot;rw[h1]at ho;obtain⟨o1,o2⟩:=QU q O m i hm;exact⟨by rw[ho.cellAt (m*2) ae];exact o1,by rw[ho.cellAt (m*2+1) ae];exact o2⟩
   have hroom:=λt=>hP.room (t:=t)
   have hP1:=hP;clear hP;have pl0:wr.rowIs w.heap.size 143 (c*2) (PK q λx=>if x<0 then some (sg fl O x)else fl x):=hM.pl.congr λj _=>by simp[PK]
   have fi0:=hM.fi;have be0:=hM.be;have hsz:=hM.sz;clear hM;go_wp2
   go_loopw [5,42] (λvo vi wq=>∃t:Nat,t<=c/\vi=.int .i64 (t:Int)/\(∃ad c',vo=.slice ad (O.length-un fl t) c'/\O.length-un fl t<=c'/\(un fl t<O.length->ad=some ⟨g,un fl t*2,none⟩))/\wq.rowIs w.heap.size 143 (c*2) (PK q λx=>if x<t then some (sg fl O x)else fl x)/\wq.rowIs (w.heap.size+1) 4 c (λt=>.bool (fl t).isSome)/\Below w.heap.size w wq/\(∀m i,O[m]?=some i->wq.cell? ⟨g,m*2,none⟩=some (.int .i64 ((q.ix i:Nat):Int))/\wq.cell? ⟨g,m*2+1,none⟩=some (q.d i))) (λ_ i _=>c-(intOf i).toNat)
   case atStart=>exact⟨0,ae,rfl,⟨ad,cap5,rfl,hcl,had⟩,pl0,fi0,be0,hgc⟩
   case round=>
    clear pl0 fi0 be0 hgc had hcl;obtain⟨t,ht,rfl,⟨ad,c',rfl,hc',had⟩,hpl,hfi,hbe,hgc⟩:=hrel;by_cases hlt2:t<c
    .have am8:(t:Int)<(c:Int):=ae;have f0:=hfi.cell hlt2;cases hf:fl t with
     |some i=>
      rw[hf]at f0;have f0':wr.cell? ⟨w.heap.size+1,t,none⟩=some (.bool true):=f0;clear f0;have hun:un fl (t+1)=un fl t:=by rw[un,hf];rfl
      have hpl2:wr.rowIs w.heap.size 143 (c*2) (PK q λx=>if x<t+1 then some (sg fl O x)else fl x):=hpl.congr λj _=>by
       simp only[PK];by_cases e:j/2=t
       .rw[e,ah ae,aj ae,hf];simp only[sg,hf]
       .by_cases e2:j/2<t
        .rw[aj e2,aj ae]
        .rw[ah e2,ah ae]
      rw[<-hun]at hc' had⊢;go_wp2
      go_roundw
      case rel=>exact⟨t+1,ae,aV,⟨ad,c',rfl,hc',had⟩,hpl2,hfi,hbe,hgc⟩
      case measure=>simp[intOf];omega
     |none=>
      rw[hf]at f0;have f0':wr.cell? ⟨w.heap.size+1,t,none⟩=some (.bool false):=f0;clear f0;have hm:=hroom t hlt2 hf;have amP:=had hm;subst amP;clear had;have hun:un fl (t+1)=un fl t+1:=by rw[un,hf];rfl
      have hsg:O[un fl t]?=some (sg fl O t):=by simp only[sg,hf];rw[aO,aY hm];rfl
      obtain⟨g0,g1⟩:=hgc _ _ hsg;have p0:=hpl.cell (i:=t*2) ae;have pf0:=hpl.frozen (t*2);have p1:=(hpl.set (t*2) (.int .i64 ((q.ix (sg fl O t):Nat):Int))).cell (i:=t*2+1) ae;have pf1:=(hpl.set (t*2) (.int .i64 ((q.ix (sg fl O t):Nat):Int))).frozen (t*2+1)
      have hpl2:=(abw (p:=t) (i:=sg fl O t) hpl).congr (g:=PK q λx=>if x<t+1 then some (sg fl O x)else fl x) λj _=>by
       simp only[PK];by_cases e:j/2=t
       .rw[e,aj rfl,aj ae]
       .rw[ah e];by_cases e2:j/2<t
        .rw[aj e2,aj ae]
        .rw[ah e2,ah ae]
      have amQ:=(hfi.setOther (a:=⟨w.heap.size,t*2,none⟩) oO (.int .i64 ((q.ix (sg fl O t):Nat):Int))).setOther (a:=⟨w.heap.size,t*2+1,none⟩) oO (q.d (sg fl O t));have amR:=(hbe.setCell (p:=⟨w.heap.size,t*2,none⟩) (ak _) (.int .i64 ((q.ix (sg fl O t):Nat):Int))).setCell (p:=⟨w.heap.size,t*2+1,none⟩) (ak _) (q.d (sg fl O t))
      have amS:∀m i,O[m]?=some i->((wr.setCell ⟨w.heap.size,t*2,none⟩ (.int .i64 ((q.ix (sg fl O t):Nat):Int))).setCell ⟨w.heap.size,t*2+1,none⟩ (q.d (sg fl O t))).cell? ⟨g,m*2,none⟩=some (.int .i64 ((q.ix i:Nat):Int))/\((wr.setCell ⟨w.heap.size,t*2,none⟩ (.int .i64 ((q.ix (sg fl O t):Nat):Int))).setCell ⟨w.heap.size,t*2+1,none⟩ (q.d (sg fl O t))).cell? ⟨g,m*2+1,none⟩=some (q.d i):=λm i hm=>by
       have e:((wr.setCell ⟨w.heap.size,t*2,none⟩ (.int .i64 ((q.ix (sg fl O t):Nat):Int))).setCell ⟨w.heap.size,t*2+1,none⟩ (q.d (sg fl O t))).heap[g]?=wr.heap[g]?:=by rw[jA _ _ _ _ (by show g≠w.heap.size;omega),jA _ _ _ _ (by show g≠w.heap.size;omega)]
       exact⟨(N7 (a:=⟨g,m*2,none⟩) e).trans (hgc m i hm).1,(N7 (a:=⟨g,m*2+1,none⟩) e).trans (hgc m i hm).2⟩
      have hlen:∃r,O.length-un fl t=r+1/\O.length-un fl (t+1)=r:=⟨O.length-un fl (t+1),ae,rfl⟩;obtain⟨r,hr1,hr2⟩:=hlen;rw[hr1]at hc'⊢;clear hgc hsg hpl hfi hbe hroom hP1 hpd hi;simp only[CL.d]at*;generalize sg fl O t=z at*;generalize q.ix z=x at*;generalize hy0:PK q (λx=>if x<t then some (sg fl O x)else fl x) (t*2)=y0 at p0;generalize hy1:(if t*2+1=t*2 then Value.int .i64 ((x:Nat):Int)else PK q (λx=>if x<t then some (sg fl O x)else fl x) (t*2+1))=y1 at p1;clear hy0 hy1;go_wp2
      go_roundw
      case rel=>
       refine⟨t+1,ae,aV,⟨_,c'-1,by rw[hr2],ae,λh=>?_⟩,hpl2,amQ,amR,amS⟩;rw[ah ae,hun,show(un fl t+1)*2=un fl t*2+2 by omega]
      case measure=>simp[intOf];omega
    .obtain rfl:t=c:=ae;have hnl:¬((t:Int)<(t:Int)):=ae;go_wp2;go_ret;exact⟨sg fl O,rfl,hpd,hpl.congr λj hj=>by simp only[PK];rw[aj ae],hbe⟩
