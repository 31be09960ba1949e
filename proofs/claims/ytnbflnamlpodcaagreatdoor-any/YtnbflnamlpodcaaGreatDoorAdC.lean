import Derived.Test.YtnbflnamlpodcaaGreatDoorPwA
set_option maxHeartbeats 1000000
set_option maxRecDepth 100000
namespace Go.Proofs.Y
theorem VV{x y:List UInt8}{i:Nat}(h:i<x.length):sH (x++y) i=sH x i:=by simp only[sH,aO];rw[eY h]
theorem SA{x y:List UInt8}{i:Nat}(h:x.length<=i):sH (x++y) i=sH y (i-x.length):=by simp only[sH,aO];rw[iO h]
theorem abz(x y:List UInt8):part (x++y) 0 x.length=x:=oI
theorem abA(x y:List UInt8):part (x++y) x.length y.length=y:=oI
theorem adp(x y z:List UInt8):part (x++(y++z)) x.length y.length=y:=oI
theorem SB(ws x:List UInt8):zV (ws++x) ws=none:=by rw[CZ];intro i hi;rw[VV ae];rfl
theorem YI(x y z:List UInt8):le (x++(y++z)) x.length y.length=le y 0 y.length:=by have:=(YJ x y z).num y.length 0 ae;rwa[eP,fG]at this
theorem G9{n v:Nat}(h:v<256^n):le (leB n v) 0 n=v:=by rw[YK,bu h]
theorem Lh{s:St}{l:List UInt8}(h:s.sz=l.length+8):xx s (rV l)=none/\part (rV l) 0 ((rV l).length-8)=l:=by
 have e1:(rV l).length-8=l.length:=aoq;have e2:part (rV l) 0 l.length=l:=abz _ _;refine⟨?_,by rw[e1,e2]⟩;unfold xx;rw[ah aoq,e1,e2]
 have e3:part (rV l) l.length 8=leB 8 (sumOf l):=by have:=abA l (leB 8 (sumOf l));rwa[ry]at this
 rw[e3,G9 (by have:=Jr l;simpa using this),aj rfl]
def MZ(p:List UInt8×Nat):List UInt8:=leB 2 p.1.length++(p.1++leB 4 p.2)
def uq(ps:List (List UInt8×Nat)):List UInt8:=ps.flatMap MZ
theorem Js(p:List UInt8×Nat):(MZ p).length=6+p.1.length:=by simp[MZ,ry];omega
def Asc:List (List UInt8)->List (List UInt8)->Prop
 |_,[]=>True
 |ns,p::r=>(1<=p.length/\p.length<=255)/\(0<ns.length->um p (ns.getD (ns.length-1) [])=false)/\Asc (ns++[p]) r
theorem adq{l:List (List UInt8)}(h:uG l):∀(r x:List (List UInt8)),l=x++r->Asc x r
 |[],_,_=>trivial
 |p::r,x,e=>by
  have hx:x.length<l.length:=by rw[e];simp
  have h1:=h x.length hx;have e1:l.getD x.length []=p:=by rw[e];simp
  rw[e1]at h1;refine⟨h1.1,λh0=>?_,adq h r _ (by rw[e];simp)⟩;have h2:=h1.2 h0
  have e2:l.getD (x.length-1) []=x.getD (x.length-1) []:=by rw[e];simp only[aO];rw[eY ae]
  rw[e2]at h2;exact h2
theorem adr:∀(r x:List (List UInt8)),uG x->Asc x r->uG (x++r)
 |[],x,h,_=>by rwa[dC]
 |p::r,x,h,ha=>by
  obtain⟨h1,h2,h3⟩:=ha;have:=adr r (x++[p]) (λi hi=>?_) h3
  .rwa[eP]at this
  .have hi':i<x.length+1:=mG;rcases aT i x.length with q|q
   .have e1:∀j,j<x.length->(x++[p]).getD j []=x.getD j []:=λj hj=>by
     simp only[aO];rw[eY hj]
    rw[e1 i q,e1 (i-1) ae];exact h i q
   .obtain rfl:i=x.length:=ae;have e1:(x++[p]).getD x.length []=p:=by simp
    rw[e1];refine⟨h1,λh0=>?_⟩
    have e2:(x++[p]).getD (x.length-1) []=x.getD (x.length-1) []:=by simp only[aO];rw[eY ae]
    rw[e2];exact h2 h0
theorem SE:∀(ps:List (List UInt8×Nat))(x:List UInt8)(ns:List (List UInt8))(zs:List Nat),Asc ns (ps.map Prod.fst)->zs.sum+(ps.map Prod.snd).sum<=65536->xI (x++uq ps) ps.length x.length ns zs=.ok (ns++ps.map Prod.fst,zs++ps.map Prod.snd)
 |[],x,ns,zs,_,_=>by simp[xI,uq]
 |p::ps,x,ns,zs,ha,hz=>by
  obtain⟨nm,z⟩:=p;obtain⟨⟨l1,l2⟩,ho,ha⟩:=ha;simp only[fH,jc]at hz l1 l2 ho ha⊢;have eu:x++uq ((nm,z)::ps)=x++(leB 2 nm.length++(nm++(leB 4 z++uq ps))):=by simp[uq,MZ]
  have eu2:x++uq ((nm,z)::ps)=(x++MZ (nm,z))++uq ps:=by simp[uq]
  have hl:(x++uq ((nm,z)::ps)).length=x.length+6+nm.length+(uq ps).length:=by rw[eu2,aQ,aQ,Js];simp only;omega
  have e1:le (x++uq ((nm,z)::ps)) x.length 2=nm.length:=by rw[eu];have:=YI x (leB 2 nm.length) (nm++(leB 4 z++uq ps));rw[ry]at this;rw[this,G9 ae]
  have e2:part (x++uq ((nm,z)::ps)) (x.length+2) nm.length=nm:=by rw[eu,<-eP];have:=adp (x++leB 2 nm.length) nm (leB 4 z++uq ps);rwa[aQ,ry]at this
  have e3:le (x++uq ((nm,z)::ps)) (x.length+2+nm.length) 4=z:=by rw[eu,<-eP,<-eP];have:=YI (x++leB 2 nm.length++nm) (leB 4 z) (uq ps);rw[aQ,aQ,ry,ry]at this;rw[this,G9 ae]
  have hb:vO (x++uq ((nm,z)::ps)) x.length ns zs=.ok (nm,z):=by unfold vO;rw[e1,e2,e3,ah ae,ah (λq=>by rw[ho q.1]at q;exact absurd q.2 ai),ah ae]
  show xI _ (ps.length+1) _ _ _=_;unfold xI;rw[hb];simp only;have:=SE ps (x++MZ (nm,z)) (ns++[nm]) (zs++[z]) ha (by simp only[iw,jc,lY];omega);rw[aQ,Js]at this;rw[eu2,this];simp
theorem SH{ns:List (List UInt8)}{zs:List Int}(h:ns.length=zs.length):uX ns zs ns.length=leB 4 ns.length++uq (ns.zip (zs.map Int.toNat)):=by
 unfold uX uq
 congr 1
 rw[List.flatMap_def,List.flatMap_def]
 congr 1
 apply anU
 .simp;omega
 .intro i h1 h2;have hi:i<ns.length:=gG;have hz:i<zs.length:=ae;simp[MZ,aY hi,aY hz]
theorem list_good{ns:List (List UInt8)}{zs:List Int}(h:ns.length=zs.length)(hn:uG ns)(hl:ns.length<=1000)(hz:tot zs<=65536):yG (uX ns zs ns.length)=.ok (ns,zs.map Int.toNat):=by
 have hzl:(zs.map Int.toNat).length=ns.length:=by simp[h]
 have m1:(ns.zip (zs.map Int.toNat)).map Prod.fst=ns:=List.map_fst_zip ae;have m2:(ns.zip (zs.map Int.toNat)).map Prod.snd=zs.map Int.toNat:=List.map_snd_zip ae;have hlz:(ns.zip (zs.map Int.toNat)).length=ns.length:=by rw[List.length_zip];omega
 have:=SE (ns.zip (zs.map Int.toNat)) (leB 4 ns.length) [] [] (by rw[m1];exact adq hn ns [] rfl) (by rw[m2];simpa[tot]using hz);rw[m1,m2,hlz,ry]at this;unfold yG;rw[SH h]
 have e0:le (leB 4 ns.length++uq (ns.zip (zs.map Int.toNat))) 0 4=ns.length:=by have:=YI [] (leB 4 ns.length) (uq (ns.zip (zs.map Int.toNat)));rw[ry]at this;simp only[bf,dA]at this;rw[this,G9 ae]
 rw[e0,ah ae,this];rfl
def YL(c:Nat):Nat->List UInt8->List (List UInt8)
 |0,_=>[]
 |f+1,r=>if r=[]then[]else rV (r.take c)::YL c f (r.drop c)
theorem VW(c:Nat)(r:List UInt8)(k:Nat):yg c r (k+1)=yg c (r.drop c) k:=by unfold yg part;rw[nT,gY,show c+k*c=(k+1)*c by rw[jZ,lU,lV],show r.length-(k+1)*c=r.length-c-k*c by rw[jZ,lU];omega]
theorem OW{c:Nat}(hc:1<=c):∀(f:Nat)(r:List UInt8),r.length<=f->(YL c f r).flatten=rU c r (Fg c r.length)
 |0,r,h=>by have:r=[]:=kD.1 ae;subst this;have:Fg c 0=0:=apa;simp[YL,rU,this]
 |f+1,r,h=>by
  by_cases hr:r=[]
  .subst hr;have:Fg c 0=0:=apa;simp[YL,rU,this]
  .have hp:0<r.length:=kC.2 hr
   have hn:Fg c r.length=Fg c (r.drop c).length+1:=by
    unfold Fg;rw[gY];rcases aT r.length c with q|q
    .rw[show r.length-c=0 by omega,nH (show 0+c-1<c by omega),aoX]<;>omega
    .rw[show r.length+c-1=(r.length-c+c-1)+c by omega,Nat.add_div_right _ ae]
   unfold YL;rw[ah hr,jf,OW hc f (r.drop c) aoG,hn];unfold rU;rw[List.range_succ_eq_map,List.flatMap_cons]
   congr 1
   .unfold yg part;rw[fF,l_,anF]
    congr 1
    rcases aT r.length c with q|q
    .rw[Nat.min_eq_right ae,iJ ae,iJ ae]
    .rw[nC q]
   .rw[List.flatMap_map];refine aP (λg=>(List.range (Fg c (r.drop c).length)).flatMap g) (funext λk=>?_);exact(VW c r k).symm
theorem OX{c:Nat}(hc:1<=c)(ts:List (List UInt8)):∀(f:Nat)(r:List UInt8)(s:St),r.length<=f->s.nx=(if r=[]then 3 else 2)->s.c=c->s.ln=s.qx.length+r.length->(∀m,m<s.ln->zq s.k s.i s.tt<=(m:Int)->sH (s.qx++r) m=0)->
  ∃pl,Ib s (YL c f r++ts)=Ib {s with qx:=s.qx++r,nx:=3,pl:=pl} ts
 |0,r,s,hf,hx,_,_,_=>by have:r=[]:=kD.1 ae;subst this;refine⟨s.pl,?_⟩;rw[aj rfl]at hx;obtain⟨k,n,i,c',ns,zs,qx,m,ln,tt,nx,pl⟩:=s;simp only at hx;subst hx;simp[YL]
 |f+1,r,s,hf,hx,hsc,hln,hp=>by
  by_cases hr:r=[]
  .subst hr;refine⟨s.pl,?_⟩;rw[aj rfl]at hx;obtain⟨k,n,i,c',ns,zs,qx,m,ln,tt,nx,pl⟩:=s;simp only at hx;subst hx;simp[YL]
  .rw[ah hr]at hx;have hr0:0<r.length:=kC.2 hr
   have hsz:s.sz=(r.take c).length+8:=by rw[sz2 hx,hsc,hln,gX,gu]
   obtain⟨g1,g2⟩:=Lh hsz
   have al5:Ob (r.take c) (zq s.k s.i s.tt-(s.qx.length:Int))=none:=by rw[C9];intro m hm hF;have hm':m<r.length:=apH;have:=hp (s.qx.length+m) ae ae;rw[SA ae,gX]at this;rw[<-this];simp only[sH,aO];rw[List.getElem?_take_of_lt apH]
   have hr1:ui s (rV (r.take c))=.ok {s with qx:=s.qx++r.take c}:=by unfold ui;rw[ah ae,ah ae,aj hx];unfold BD;rw[g1,g2];simp only;rw[al5]
   have e1:s.qx++r.take c++r.drop c=s.qx++r:=by rw[eP,nJ]
   obtain⟨pl,h⟩:=OX hc ts f (r.drop c) (rQ {s with qx:=s.qx++r.take c} (rV (r.take c))) aoG (by
     show vP _=_;unfold vP;simp only;rw[ah ae,ah ae,hln,aQ,gu];by_cases q:r.drop c=[]
     .rw[aj q,ah];have:=aP List.length q;rw[gY,dA]at this;omega
     .have:=kC.2 q;rw[gY]at this;rw[ah q,aj ae]) hsc (by
     show s.ln=(s.qx++r.take c).length+_;rw[hln,aQ,gu,gY];omega) (by
     show∀m,m<s.ln->zq s.k s.i s.tt<=(m:Int)->sH (s.qx++r.take c++r.drop c) m=0;rw[e1];exact hp)
   refine⟨pl,?_⟩;unfold YL;rw[ah hr,aW]
   conv=>lhs;unfold Ib
   rw[aj ⟨by rw[rY];exact hsz.symm,ae⟩,hr1];refine h.trans ?_;show Ib {s with qx:=s.qx++r.take c++r.drop c,nx:=3,pl:=pl} ts=_;rw[e1]
def pieces(s:Sh):List (List UInt8):=rV (headB s (AQ s).length)::rV (AQ s)::(YL s.C.toNat s.qx.length s.qx++[t_])
theorem VX{s:Sh}(h:1<=s.C):(pieces s).flatten=OY s:=by unfold pieces OY;rw[jf,jf,anT,OW ae _ _ (ak _)];simp[t_]
def SI(s:Sh):vH:=⟨s.K.toNat,s.N.toNat,s.I.toNat,s.C.toNat,s.ns,s.zs.map Int.toNat,s.qx⟩
theorem Jt(s:Sh)(m:Nat):(headB s m).length=24:=by simp[headB,ry]
theorem ads{s:Sh}(hF:s.Fine){m:Nat}(hm:4<=m)(hm2:m<=300000)(hl:s.qx.length<=65536)(ts:List (List UInt8)):Ib St0 (rV (headB s m)::ts)=Ib ⟨s.K.toNat,s.N.toNat,s.I.toNat,s.C.toNat,[],[],[],m,s.qx.length,0,1,32⟩ ts:=by
 have hz:St0.sz=(headB s m).length+8:=by rw[Jt];rfl
 obtain⟨g1,_⟩:=Lh hz;have ha:At (rV (headB s m)) 0 (headB s m):=YJ [] (headB s m) _
 have hn:∀j n,j+n<=24->le (rV (headB s m)) j n=le (headB s m) j n:=λj n h=>by have:=ha.num n j (by rw[Jt];exact h);rwa[aS]at this
 obtain⟨k1,kn,n1,i0,iN,c1,c2⟩:=hF;have e6:le (rV (headB s m)) 6 1=s.K.toNat:=by rw[hn 6 1 ae];simp[headB,le,sH,b8];omega
 have e7:le (rV (headB s m)) 7 1=s.N.toNat:=by rw[hn 7 1 ae];simp[headB,le,sH,b8];omega
 have e8:le (rV (headB s m)) 8 1=s.I.toNat:=by rw[hn 8 1 ae];simp[headB,le,sH,b8];omega
 have e9:le (rV (headB s m)) 9 1=0:=by rw[hn 9 1 ae];simp[headB,le,sH]
 have e10:le (rV (headB s m)) 10 4=s.C.toNat:=by rw[hn 10 4 ae];simp[headB,le,sH,leB];omega
 have e14:le (rV (headB s m)) 14 4=m:=by rw[hn 14 4 ae];simp[headB,le,sH,leB];omega
 have e18:le (rV (headB s m)) 18 4=s.qx.length:=by rw[hn 18 4 ae];simp[headB,le,sH,leB];omega
 have e22:le (rV (headB s m)) 22 2=0:=by rw[hn 22 2 ae];simp[headB,le,sH,leB]
 have eb:zV (rV (headB s m)) zu=none:=by
  have:rV (headB s m)=zu++(([b8 s.K,b8 s.N,b8 s.I,0]++(leB 4 s.C.toNat++(leB 4 m++(leB 4 s.qx.length++[0,0]))))++leB 8 (sumOf (headB s m))):=by
   unfold rV
   conv=>lhs;unfold headB
   simp only[eP];rfl
  rw[this];exact SB _ _
 have en:uB (xJ (rV (headB s m)))=none:=by unfold xJ;rw[e6,e7,e8,e9,e10,e14,e18,e22];unfold uB;rw[ah ae];unfold uB;rw[ah ae];unfold uB;rw[ah ae];unfold uB;rw[ah ae];unfold uB;rw[ah ae];unfold uB;rw[ah ae];unfold uB;rw[ah ae];unfold uB;rw[ah ae];rfl
 have hr:ui St0 (rV (headB s m))=.ok ⟨s.K.toNat,s.N.toNat,s.I.toNat,s.C.toNat,[],[],[],m,s.qx.length,0,0,0⟩:=by unfold ui;rw[aj (show St0.nx=0 from rfl)];unfold FB;rw[eb];simp only;rw[g1];simp only;rw[en];simp only;rw[e6,e7,e8,e10,e14,e18];rfl
 conv=>lhs;unfold Ib
 rw[aj ⟨by rw[rY];exact hz.symm,au⟩,hr];simp only;unfold rQ;rw[rY,Jt];rfl
theorem agJ{s:Sh}(hL:s.Listed)(hW:s.Few)(hG:s.Ux)(ts:List (List UInt8)):∃pl,Ib ⟨s.K.toNat,s.N.toNat,s.I.toNat,s.C.toNat,[],[],[],(AQ s).length,s.qx.length,0,1,32⟩ (rV (AQ s)::ts)=Ib ⟨s.K.toNat,s.N.toNat,s.I.toNat,s.C.toNat,s.ns,s.zs.map Int.toNat,[],(AQ s).length,s.qx.length,tot s.zs,if s.qx=[]then 3 else 2,pl⟩ ts:=by
 obtain⟨g1,g2⟩:=Lh (s:=⟨s.K.toNat,s.N.toNat,s.I.toNat,s.C.toNat,[],[],[],(AQ s).length,s.qx.length,0,1,32⟩) (l:=AQ s) (sz1 rfl);have hl:yG (AQ s)=.ok (s.ns,s.zs.map Int.toNat):=list_good hL.len hL.names hW.adt hW.bytes
 have hr:ui ⟨s.K.toNat,s.N.toNat,s.I.toNat,s.C.toNat,[],[],[],(AQ s).length,s.qx.length,0,1,32⟩ (rV (AQ s))=.ok ⟨s.K.toNat,s.N.toNat,s.I.toNat,s.C.toNat,s.ns,s.zs.map Int.toNat,[],(AQ s).length,s.qx.length,tot s.zs,1,32⟩:=by unfold ui;rw[ah ai,aj rfl];unfold OZ;rw[g1,g2];simp only;rw[hl];simp only;rw[aj (by exact hG)];rfl
 refine⟨32+((AQ s).length+8),?_⟩
 conv=>lhs;unfold Ib
 rw[aj ⟨by rw[rY,sz1 rfl],ai⟩,hr];simp only;unfold rQ;rw[rY];simp only
 congr 2
 unfold vP;simp only;rw[ah au,ah au];by_cases q:s.qx=[]
 .rw[aj q,ah (by rw[q];simp)]
 .have:=kC.2 q;rw[ah q,aj (by simpa using this)]
theorem aiH{s:Sh}(hF:s.Fine)(hL:s.Listed)(hW:s.Few)(hG:s.Ux)(hB:¬s.Bad):∃st,Ib St0 (pieces s)=some st/\st.nx=4/\st.shd=SI s:=by
 have hk:1<=s.K.toNat:=by have:=hF.k1;omega
 have hl:s.qx.length<=65536:=by have h1:=B_ (t:=tot s.zs) hk;have h2:=hW.bytes;have h3:s.qx.length=_:=hG;omega
 have hm:(AQ s).length=FC s.ns:=FD s;have hm4:4<=FC s.ns:=by unfold FC;omega
 unfold pieces;rw[ads hF ae (by have:=hW.Lj;omega) hl];obtain⟨p1,e1⟩:=agJ hL hW hG (YL s.C.toNat s.qx.length s.qx++[t_]);rw[e1]
 obtain⟨p2,e2⟩:=OX (c:=s.C.toNat) (by have:=hF.c1;omega) [t_] s.qx.length s.qx ⟨s.K.toNat,s.N.toNat,s.I.toNat,s.C.toNat,s.ns,s.zs.map Int.toNat,[],(AQ s).length,s.qx.length,tot s.zs,if s.qx=[]then 3 else 2,p1⟩ (ak _) rfl rfl ai (by
  intro m hm hu;simp only[bf]at hm hu⊢;by_cases q:sH s.qx m=0
  .exact q
  .exfalso;have h3:s.qx.length=_:=hG;unfold zq at hu;by_cases hki:s.K.toNat<=s.I.toNat
   .rw[aj hki]at hu;omega
   .rw[ah hki]at hu;refine hB ⟨by have:=hF.k1;omega,m,hm,?_,q⟩;omega)
 rw[e2];refine⟨rQ ⟨s.K.toNat,s.N.toNat,s.I.toNat,s.C.toNat,s.ns,s.zs.map Int.toNat,[]++s.qx,(AQ s).length,s.qx.length,tot s.zs,3,p2⟩ t_,?_,?_,?_⟩
 .unfold Ib;rw[aj ⟨(sz3 rfl).symm,ai⟩]
  have:ui ⟨s.K.toNat,s.N.toNat,s.I.toNat,s.C.toNat,s.ns,s.zs.map Int.toNat,[]++s.qx,(AQ s).length,s.qx.length,tot s.zs,3,p2⟩ t_=.ok ⟨s.K.toNat,s.N.toNat,s.I.toNat,s.C.toNat,s.ns,s.zs.map Int.toNat,[]++s.qx,(AQ s).length,s.qx.length,tot s.zs,3,p2⟩:=by
   unfold ui;rw[ah ai,ah ai,ah ai];unfold FH;have:zV t_ t_=none:=by simpa using SB t_ []
   rw[this];simp only;rw[ah (by rw[sz3 rfl];decide)]
  simp only at this⊢;rw[this];rfl
 .rfl
 .simp[St.shd,SI,rQ]
theorem adu{s:Sh}(hF:s.Fine)(hL:s.Listed)(hW:s.Few)(hG:s.Ux)(hB:¬s.Bad)(x:List UInt8):qP (OY s++x)=if x=[]then .ok (SI s)else .error (9,(OY s).length):=by obtain⟨st,h1,h2,h3⟩:=aiH hF hL hW hG hB;rw[<-VX hF.c1,<-h3];exact abB h1 h2 x
theorem sS(z:List UInt8)(a n m:Nat):part z a (n+m)=part z a n++part z (a+n) m:=by unfold part;rw[List.take_add,nT]
theorem vU{z:List UInt8}{a n:Nat}(h:a+n<=z.length):part z a n=leB n (le z a n):=by have h1:=YM (part z a n);rw[qE h,agK h]at h1;exact h1.symm
theorem O0{z:List UInt8}{a n:Nat}(h:yH z a n=none):a+n+8<=z.length/\part z a (n+8)=rV (part z a n):=by
 have hl:=abC h;refine⟨hl,?_⟩;unfold yH at h;rw[ah ae]at h;split at h
 .rename_i e;rw[sS,e];rfl
 .cases h
theorem Uy(z:List UInt8):∀(ws:List UInt8)(a:Nat),a<=z.length->Ah z a ws=none->a+ws.length<=z.length/\part z a ws.length=ws
 |[],a,ha,_=>⟨ha,oI⟩
 |c::ws,a,_,h=>by
  unfold Ah at h;split at h
  .cases h
  .rename_i hl;split at h
   .rename_i hc;obtain⟨h1,h2⟩:=Uy z ws (a+1) ae h;refine⟨by rw[bM];omega,?_⟩;rw[bM,lV,sS,h2,vU ae];show UInt8.ofNat ((sH z a+256*0)%256)::([]++ws)=_;rw[hc];have:=lM c;rw[show(c.toNat+256*0)%256=c.toNat by omega];simp
   .cases h
theorem VY(u:List UInt8):∀(c a:Nat)(ns:List (List UInt8))(zs:List Nat)(ns':List (List UInt8))(zs':List Nat),a<=u.length->xI u c a ns zs=.ok (ns',zs')->
  ∃ps:List (List UInt8×Nat),ps.length=c/\ns'=ns++ps.map Prod.fst/\zs'=zs++ps.map Prod.snd/\u.drop a=uq ps/\Asc ns (ps.map Prod.fst)
 |0,a,ns,zs,ns',zs',ha,h=>by
  unfold xI at h;split at h
  .cases h
  .cases h;refine⟨[],rfl,ai,ai,?_,trivial⟩;rw[anW ae];rfl
 |c+1,a,ns,zs,ns',zs',ha,h=>by
  unfold xI at h;cases hb:vO u a ns zs with
  |error e=>rw[hb]at h;cases h
  |ok x=>
   obtain⟨nm,z⟩:=x;rw[hb]at h;simp only at h;unfold vO at hb;split at hb
   .cases hb
   .rename_i q1;split at hb
    .cases hb
    .rename_i q2;split at hb
     .cases hb
     .rename_i q3;simp only[Except.ok.injEq,lQ]at hb;obtain⟨e1,e2⟩:=hb;have hl:nm.length=le u a 2:=by rw[<-e1];exact qE ae
      obtain⟨ps,g1,g2,g3,g4,g5⟩:=VY u c _ _ _ _ _ mQ h;refine⟨(nm,z)::ps,by simp[g1],by simp[g2],by simp[g3],?_,⟨by simp only;omega,λh0=>?_,g5⟩⟩
      .have d1:u.drop a=part u a 2++(part u (a+2) (le u a 2)++(part u (a+2+le u a 2) 4++u.drop (a+(6+nm.length)))):=by
        have t:∀b n,u.drop b=part u b n++u.drop (b+n):=λb n=>by unfold part;rw[<-nT,nJ]
        rw[t a 2,t (a+2) (le u a 2),t (a+2+le u a 2) 4,hl,show a+2+le u a 2+4=a+(6+le u a 2)by omega]
       rw[d1,g4,vU (a:=a) (n:=2) ae,e1,vU (a:=a+2+le u a 2) (n:=4) ae,e2,<-hl];simp[uq,MZ]
      .have:=λq=>q2 ⟨h0,q⟩
       rw[e1]at this;exact aqb
theorem aaG{en:Int}:∀{p:List UInt8}{a m:Nat},D9 en a m p=none->∀j,j<p.length->en<=((m+j:Nat):Int)->sH p j=0
 |[],_,_,_,j,hj,_=>by simp at hj
 |b::p,a,m,h,j,hj,he=>by
  unfold D9 at h;split at h
  .rename_i q;cases j with
   |zero=>
    rcases q with q|q
    .omega
    .simpa[sH]using q
   |succ j=>
    rw[FI];exact aaG h j iR ae
  .cases h
theorem O1{z:List UInt8}{low:Bool}{c ln:Nat}{en:Int}(hc:1<=c):∀(f a:Nat)(qx adv:List UInt8)(a':Nat),xh z low c ln en f a qx=.ok (adv,a')->qx.length<=ln->ln<=f+qx.length->a<=z.length->
  ∃r,adv=qx++r/\adv.length=ln/\a<=a'/\a'<=z.length/\part z a (a'-a)=(YL c f r).flatten/\(low=true->∀j,j<r.length->en<=((qx.length+j:Nat):Int)->sH r j=0)
 |0,a,qx,adv,a',h,h1,h2,h3=>by unfold xh at h;cases h;exact⟨[],ai,ae,ak _,h3,by simp[part,YL],λ_ j hj=>by simp at hj⟩
 |f+1,a,qx,adv,a',h,h1,h2,h3=>by
  unfold xh at h;split at h
  .cases h;exact⟨[],ai,ae,ak _,h3,by simp[part,YL],λ_ j hj=>by simp at hj⟩
  .rename_i hlt;cases hs:yH z a (min (ln-qx.length) c)with
   |some e=>rw[hs]at h;cases h
   |none=>
    rw[hs]at h;simp only at h;obtain⟨s1,s2⟩:=O0 hs;cases hp:(if low=true then D9 en a qx.length (part z a (min (ln-qx.length) c))else none)with
    |some e=>rw[hp]at h;cases h
    |none=>
     rw[hp]at h;simp only at h;have hpl:(part z a (min (ln-qx.length) c)).length=min (ln-qx.length) c:=qE ae;obtain⟨r,g1,g2,g3,g4,g5,g6⟩:=O1 hc f _ _ _ _ h apJ apJ ae
     have hr:r.length=ln-qx.length-min (ln-qx.length) c:=by have:=aP List.length g1;rw[aQ,aQ,hpl,g2]at this;omega
     have ht:(part z a (min (ln-qx.length) c)++r).take c=part z a (min (ln-qx.length) c)/\(part z a (min (ln-qx.length) c)++r).drop c=r:=by
      rcases aT (ln-qx.length) c with q|q
      .have:r=[]:=kD.1 ae;rw[this,dC,iJ ae,anW ae];exact⟨rfl,rfl⟩
      .have:c=(part z a (min (ln-qx.length) c)).length:=ae;constructor
       .conv=>lhs;arg 1;rw[this]
        simp
       .conv=>lhs;arg 1;rw[this]
        simp
     refine⟨part z a (min (ln-qx.length) c)++r,by rw[g1,eP],g2,ae,g4,?_,λhlow j hj he=>?_⟩
     .unfold YL;rw[ah,ht.1,ht.2,jf,<-g5,<-s2]
      .rw[show a'-a=(min (ln-qx.length) c+8)+(a'-(a+min (ln-qx.length) c+8))by omega,sS,dB a]
      .intro e;have:=aP List.length e;rw[aQ,hpl]at this;simp at this;omega
     .rcases aT j (min (ln-qx.length) c)with q|q
      .rw[VV ae];rw[aj hlow]at hp;exact aaG hp j ae he
      .rw[SA ae,hpl];refine g6 hlow _ (by rw[aQ,hpl]at hj;omega) ?_;rw[aQ,hpl];omega
theorem VZ:∀(ps:List (List UInt8×Nat)),(ps.map Prod.fst).zip (ps.map Prod.snd)=ps
 |[]=>rfl
 |p::ps=>by rw[fH,fH,List.zip_cons_cons,VZ ps]
def vH.sh(d:vH):Sh:=⟨d.k,d.n,d.i,d.c,d.names,d.sizes.map Int.ofNat,d.qx⟩
theorem Ju(l:List Nat):(l.map Int.ofNat).map Int.toNat=l:=by
 rw[je]
 conv=>rhs;rw[<-List.map_id l]
 rfl
theorem abD{z:List UInt8}{d:vH}(h:qP z=.ok d):d.sh.Fine/\d.sh.Listed/\d.sh.Few/\d.sh.Ux/\¬d.sh.Bad/\OY d.sh=z:=by
 unfold qP at h;cases hh:Dx z with
 |some e=>rw[hh]at h;cases h
 |none=>
  rw[hh]at h;simp only at h;cases hn:BF z (le z 14 4)with
  |error e=>rw[hn]at h;cases h
  |ok x=>
   obtain⟨ns,zs⟩:=x;rw[hn]at h;simp only at h;split at h
   .rename_i hlen;split at h
    .cases h
    .rename_i qx a hf;split at h
     .cases h
     .rename_i ho;cases h;unfold Dx at hh;cases h1:Ah z 0 zu with
      |some e=>rw[h1]at hh;cases hh
      |none=>
       rw[h1]at hh;cases h2:yH z 0 24 with
       |some e=>rw[h2]at hh;cases hh
       |none=>
        rw[h2]at hh;have hr:O3 none (le z 6 1) (le z 7 1) (le z 8 1) (le z 9 1) (le z 10 4) (le z 14 4) (le z 18 4) (le z 22 2)=none:=hh;obtain⟨k1,k2,n1,n2,iN,z0,c1,c2,m1,m2,l1,y0⟩:=IQ hr;obtain⟨s1,s2⟩:=O0 h2;obtain⟨_,f2⟩:=Uy z zu 0 ae h1;unfold BF at hn;cases h3:yH z 32 (le z 14 4)with
        |some e=>rw[h3]at hn;cases hn
        |none=>
         rw[h3]at hn;simp only at hn;obtain⟨t1,t2⟩:=O0 h3;split at hn
         .cases hn
         .rename_i hcnt;have hu:(part z 32 (le z 14 4)).length=le z 14 4:=qE ae;have hA:At z 32 (part z 32 (le z 14 4)):=At.Uz z ae
          have e4:le z 32 4=le (part z 32 (le z 14 4)) 0 4:=by have:=hA.num 4 0 ae;rwa[fG]at this
          rw[show(36:Nat)=32+4 from rfl,IU hA hu _ 4 [] [] ae ai]at hn;cases hl:xI (part z 32 (le z 14 4)) (le z 32 4) 4 [] []with
          |error e=>rw[hl]at hn;cases hn
          |ok x=>
           rw[hl]at hn;cases hn;have hsum:=G_ _ _ _ _ _ ai hl;obtain⟨ps,g1,g2,g3,g4,g5⟩:=VY _ _ _ _ _ _ _ ae hl;rw[bf]at g2 g3;have hnl:ns.length=le z 32 4:=by rw[g2,iK,g1]
           have hzl:zs.length=le z 32 4:=by rw[g3,iK,g1]
           have htot:tot (zs.map Int.ofNat)=zs.sum:=by unfold tot;rw[Ju]
           have abE:uX ns (zs.map Int.ofNat) ns.length=part z 32 (le z 14 4):=by rw[SH (by rw[iK];omega),Ju,g2,g3,VZ,<-g2,hnl,<-g4,e4];have h0:=vU (z:=part z 32 (le z 14 4)) (a:=0) (n:=4) ae;rw[<-h0];unfold part;rw[l_,nJ]
           obtain⟨r,q1,q2,q3,q4,q5,q6⟩:=O1 c1 _ _ _ _ _ hf ai ai ae;rw[bf]at q1;subst q1;cases h5:Ah z a t_ with
           |some e=>rw[h5]at ho;cases ho
           |none=>
            rw[h5]at ho
            have hz:z.length<=a+4:=by
             rcases aT (a+4) z.length with q|q
             .have:xK (decide (z.length<=a+4)) 9 (a+4)=none:=ho;rw[dO ae]at this;cases this
             .exact q
            obtain⟨v1,v2⟩:=Uy z t_ a q4 h5;have v1':a+4<=z.length:=v1;have aky:le z 18 4=sF (le z 6 1) zs.sum:=by rw[hlen,xM hsum]
            refine⟨⟨?_,?_,?_,?_,?_,?_,?_⟩,⟨?_,?_,?_⟩,⟨?_,?_,?_⟩,?_,?_,?_⟩
            .show(1:Int)<=(le z 6 1:Nat);omega
            .show((le z 6 1:Nat):Int)<=(le z 7 1:Nat);omega
            .show((le z 7 1:Nat):Int)<=128;omega
            .show(0:Int)<=(le z 8 1:Nat);omega
            .show((le z 8 1:Nat):Int)<(le z 7 1:Nat);omega
            .show(1:Int)<=(le z 10 4:Nat);omega
            .show((le z 10 4:Nat):Int)<=65536;omega
            .show ns.length=(zs.map Int.ofNat).length;rw[iK];omega
            .show uG ns;have:=adr (ps.map Prod.fst) [] (λi hi=>by simp at hi) g5;rwa[bf,<-g2]at this
            .intro i hi;have hi':i<zs.length:=by simpa[vH.sh]using hi
             simp[vH.sh,aY hi']
            .show ns.length<=1000;omega
            .show tot (zs.map Int.ofNat)<=65536;rw[htot];exact hsum
            .show FC ns<=300000;have:=FD (⟨0,0,0,0,ns,zs.map Int.ofNat,[]⟩:Sh);have e:AQ (⟨0,0,0,0,ns,zs.map Int.ofNat,[]⟩:Sh)=part z 32 (le z 14 4):=abE;rw[e,hu]at this;have:le z 14 4=FC ns:=this;omega
            .show qx.length=sF (le z 6 1) (tot (zs.map Int.ofNat));rw[htot,q2,aky]
            .rintro⟨b1,m,b2,b3,b4⟩;have b1':((le z 8 1:Nat):Int)<(le z 6 1:Nat):=b1;have b2':m<qx.length:=b2;have b3':tot (zs.map Int.ofNat)<=le z 8 1*sF (le z 6 1) (tot (zs.map Int.ofNat))+m:=b3;rw[htot]at b3';refine b4 (q6 az m b2' ?_);have e1:Ai zs=zs.sum:=by unfold Ai;rw[aj hsum]
             rw[e1,xM hsum];simp only[dA,aS];omega
            .have w1:headB (vH.sh ⟨le z 6 1,le z 7 1,le z 8 1,le z 10 4,ns,zs,qx⟩) (le z 14 4)=part z 0 24:=by
              have e1:part z 0 24=part z 0 6++(part z 6 1++(part z 7 1++(part z 8 1++(part z 9 1++(part z 10 4++(part z 14 4++(part z 18 4++part z 22 2))))))):=by exact(sS z 0 6 18).trans (aP _ ((sS z 6 1 17).trans (aP _ ((sS z 7 1 16).trans (aP _ ((sS z 8 1 15).trans (aP _ ((sS z 9 1 14).trans (aP _ ((sS z 10 4 10).trans (aP _ ((sS z 14 4 6).trans (aP _ (sS z 18 4 2))))))))))))))
              have f2':part z 0 6=[67,65,73,82,78,49]:=f2;rw[e1,f2',vU (a:=6) ae,vU (a:=7) ae,vU (a:=8) ae,vU (a:=9) ae,vU (a:=10) ae,vU (a:=14) ae,vU (a:=18) ae,vU (a:=22) ae,z0,y0];unfold headB;show[67,65,73,82,78,49]++([b8 (le z 6 1:Nat),b8 (le z 7 1:Nat),b8 (le z 8 1:Nat),0]++(leB 4 (le z 10 4)++(leB 4 (le z 14 4)++(leB 4 qx.length++[0,0]))))=_;rw[q2];rfl
             have w2:AQ (vH.sh ⟨le z 6 1,le z 7 1,le z 8 1,le z 10 4,ns,zs,qx⟩)=part z 32 (le z 14 4):=abE;unfold OY;rw[w2,hu,w1,<-s2,<-t2];show part z 0 32++part z 32 (le z 14 4+8)++rU (le z 10 4) qx (Fg (le z 10 4) qx.length)++[68,79,78,69]=z;rw[<-OW c1 (le z 18 4) qx ae,<-q5];have v2':part z a 4=[68,79,78,69]:=v2;rw[<-v2'];have q3':32+le z 14 4+8<=a:=q3;rw[show part z 0 32=part z 0 (0+32)from rfl];have j1:=sS z 0 32 (le z 14 4+8);have j2:=sS z 0 (32+(le z 14 4+8)) (a-(32+le z 14 4+8));have j3:=sS z 0 a 4;simp only[aS]at j1 j2 j3⊢;rw[<-j1];rw[show 32+(le z 14 4+8)=32+le z 14 4+8 by omega]at j2⊢;rw[<-j2,show 32+le z 14 4+8+(a-(32+le z 14 4+8))=a by omega,<-j3,show a+4=z.length by omega];unfold part;simp
   .cases h
end Go.Proofs.Y
namespace Go.Proofs.Y
open Go.RowKit Go.Deep Go.Lf Go.Conc Go.ConcN Go.Gh Go.Hp
structure YN(d:vH):Prop where
 fine:d.sh.Fine
 listed:d.sh.Listed
 few:d.sh.Few
 long:d.sh.Ux
theorem aaH{s t:vH}(h:Oc s t=true):t.k=s.k/\t.n=s.n/\t.c=s.c/\t.names=s.names/\t.sizes=s.sizes:=by simp only[Oc,fA,beq_iff_eq,gU]at h;obtain⟨⟨⟨⟨h1,h2⟩,h3⟩,h4⟩,h5⟩:=h;exact⟨ae,ae,ae,h4.symm,h5.symm⟩
theorem YN.k1{d:vH}(h:YN d):1<=d.k/\d.k<=d.n/\d.n<=128/\d.i<d.n:=by obtain⟨⟨a1,a2,a3,a4,a5,a6,a7⟩,_,_,_⟩:=h;simp only[vH.sh]at a1 a2 a3 a4 a5;omega
theorem YN.tot{d:vH}(h:YN d):d.sizes.sum<=65536:=by have:=h.few.bytes;rw[show d.sh.zs=d.sizes.map Int.ofNat from rfl,OE]at this;exact this
theorem YN.qx{d:vH}(h:YN d):d.qx.length=sF d.k d.sizes.sum:=by have:=h.long;unfold Sh.Ux at this;rw[show d.sh.zs=d.sizes.map Int.ofNat from rfl,OE,show d.sh.K.toNat=d.k from rfl]at this;exact this
theorem YN.ln{d:vH}(h:YN d):d.names.length=d.sizes.length:=by have:=h.listed.len;simpa[vH.sh]using this
theorem rise{n:Nat}{x:Nat->Nat}(h:∀i,i+1<n->x i<x (i+1)):∀j i,i<j->j<n->x i<x j
 |0,i,h1,_=>by omega
 |j+1,i,h1,h2=>by
  have:=h j h2;rcases aT i j with h3|h3
  .have:=rise h j i h3 ae;omega
  .obtain rfl:i=j:=ae;exact this
theorem aaI{n:Nat}{x:Nat->Nat}(h:∀i,i+1<n->x i<x (i+1)):∀j,j<n->j<=x j
 |0,_=>by omega
 |j+1,h1=>by have:=h j h1;have:=aaI h j ae;omega
def Ii(M:Nat)(sh:Nat->vH)(l:List UInt8):Prop:=l.length=(sh 0).sizes.sum/\V6 (sh 0).k (sF (sh 0).k (sh 0).sizes.sum) M sh l
theorem aiI{M:Nat}{sh:Nat->vH}(hG:∀i,i<M->YN (sh i))(UA:∀i,i+1<M->(sh i).i<=(sh (i+1)).i)(hE:Dy M sh 0):0<M/\DsH (sh 0).k (sh 0).n (sF (sh 0).k (sh 0).sizes.sum) (sh 0).sizes.sum M sh:=by
 rcases hE with⟨h,_⟩|⟨h,_⟩|⟨h,_⟩|⟨_,hA,hD,h0,hk⟩
 .cases h
 .cases h
 .cases h
 have hG0:=hG 0 h0;obtain⟨a1,a2,a3,a4⟩:=hG0.k1
 have hst:∀i,i+1<M->(sh i).i<(sh (i+1)).i:=λi hi=>by
  have:=UA i hi;have:(sh (i+1)).i≠(sh i).i:=λe=>hD ⟨i,hi,e⟩
  omega
 have hix:∀i,i<M->(sh i).i<(sh 0).n:=λi hi=>by have:=(hG i hi).k1.2.2.2;rw[(aaH (hA i hi)).2.1]at this;exact this
 have hMn:M<=128:=by have h1:=aaI hst (M-1) ae;have h2:=hix (M-1) ae;omega
 refine⟨h0,a1,a2,a3,hk,hMn,rfl,rfl,rfl,hG0.tot,rfl,λi hi=>?_,hix,λi j hi hj hne e=>?_⟩
 .obtain⟨e1,_,_,_,e5⟩:=aaH (hA i hi);rw[(hG i hi).qx,e1,e5]
 .rcases aT i j with h|h
  .have:=rise hst j i h hj;omega
  .have:=rise hst i j ae hi;omega
def agL(M:Nat)(sh:Nat->vH)(y:Value)(w:World):Prop:=
 (∃e ev p,Dy M sh e/\e≠0/\y=.tuple #[.slice none 0 0,ev]/\Chain w 1 ev e p)\/
 (Dy M sh 0/\(¬∃l,Ii M sh l)/\∃ev p,y=.tuple #[.slice none 0 0,ev]/\Chain w 1 ev 13 p)\/
 (Dy M sh 0/\∃l gb vb,Ii M sh l/\(∀l',Ii M sh l'->l'=l)/\y=.tuple #[.slice (some ⟨gb,0,none⟩) (sh 0).names.length (sh 0).names.length,.nilIface]/\CB (sh 0).names (sh 0).sizes l gb (sh 0).names.length vb w)
theorem abG{Fin:Machine->Trace->Prop}(hpre:∀m m' ops t,stepT Tryz.prog m=(.next m',ops)->Fin m' (t++ops)->Fin m t){X:Nat->Prop}{Y:Nat->Option Obj}{e:Nat}{gs:Array Goroutine}{W v0:World}{sl:Option (Nat×Nat)}{t:Trace}{qq:Nat->Nat}{fr:Frame}{cs:List Frame}{M cap:Nat}{bo:Option Addr}{sh:Nat->vH}{vN vS vC:Nat->Value}
  (h0:gs[0]?=some (G ((base 19).at ⟨#[.slice bo M cap]++Array.replicate 34 undef,[]⟩ [.code v_]) (fr::cs))) (hB:Fz Tryz.prog (uj X) e gs W t qq) (hs:qH X Y W v0)
  (hS:O4 v0 bo M sh vN vS vC) (hM:M<=1048576) (hG:∀i,i<M->YN (sh i)) (he:e+256<2147483648)
  (hnext:∀(e':Nat)(g:Nat->Nat)(y:Value)(X':Nat->Prop)(gs':Array Goroutine)(W':World)(sl':Option (Nat×Nat))(t':Trace)(q':Nat->Nat)(Y':Nat->Option Obj)(v':World),e'<=e+256->Prm M g->(∀i,i+1<M->(sh (g i)).i<=(sh (g (i+1))).i)->gs'[0]?=some (G (fr.finish y) cs)->
   Fz Tryz.prog (uj X') e' gs' W' t' q'->qH X' Y' W' v'->(∀b,X b->X' b)->(∀b,X' b->X b\/W.heap.size<=b)->Sub v0 v'->KpX X W W'->agL M (λi=>sh (g i)) y v'->Fin (crowd gs' W' sl') t'):
  Fin (crowd gs W sl) t:=by
 let St:Goroutine->World->Prop:=λgr W=>∃(T:Array Value)(g:Nat->Nat)(bs:Option Addr)(cp:Nat)(v1:World),TA1 (.slice bs M cp) T/\Prm M g/\(∀i,i+1<M->(sh (g i)).i<=(sh (g (i+1))).i)/\O4 v1 bs M (λi=>sh (g i)) (λi=>vN (g i)) (λi=>vS (g i)) (λi=>vC (g i))/\rJ v0.heap.size v0 v1/\gr=G ((base 19).at ⟨T,[]⟩ [.code UB]) (fr::cs)/\qH X Y W v1
 have key:=aiJ (Stop:=St) (Y:=Y) (cs:=fr::cs) (cap:=cap) (yO X) hS hM (λi hi=>by have:=(hG i hi).k1;omega) (λT g bs cp v1 a1 a2 a3 a4 a5 y hy=>.stop λd=>⟨T,g,bs,cp,v1,a1,a2,a3,a4,a5,rfl,hy.at d⟩);refine late (Fin:=Fin) (Shun:=uj X) (e:=e) hpre (λ_ _ _ h=>h) (λgs1 a1 W1 sl1 t1 q1 h01 hst hB1=>?_) (key W hs) W.drawn gs sl t qq h0 hB;obtain⟨T,g,bs,cp,v1,hT,hP,UA,hS1,hb1,rfl,hs1⟩:=hst W1.drawn;replace hs1:qH X Y W1 v1:=hs1;clear key hst;have hk1:=AU hs hs1 hb1;have O5:=tK hb1;have hG1:∀i,i<M->YN (sh (g i)):=λi hi=>hG _ (hP.lt i hi)
 obtain⟨err,hE⟩:=Dy.some M (λi=>sh (g i));by_cases hz:err=0
 .subst hz;obtain⟨hM0,hH⟩:=aiI (sh:=λi=>sh (g i)) hG1 UA hE
  let St2:Goroutine->World->Prop:=λgr W=>∃T2 v2,TA1 (.slice bs M cp) T2/\rJ v1.heap.size v1 v2/\gr=G ((base 38).at ⟨#[.slice bs M cp]++Array.replicate 75 undef,[]⟩ [.code wo]) (adw T2::fr::cs)/\qH X Y W v2
  have agM:=akz (Stop:=St2) (Y:=Y) (cs:=fr::cs) (yO X) hT hS1 hM hE (λT' w' a1 a2 y hy=>.stop λd=>⟨T',w',a1,a2,rfl,hy.at d⟩);refine late (Fin:=Fin) (Shun:=uj X) (e:=e) hpre (λ_ _ _ h=>h) (λgs2 a2 W2 sl2 t2 q2 h02 hst hB2=>?_) (agM W1 hs1) W1.drawn gs1 sl1 t1 q1 h01 hB1;obtain⟨T2,v2,hT2,hb2,rfl,hs2⟩:=hst W2.drawn;replace hs2:qH X Y W2 v2:=hs2;clear agM hst;have hk2:=AU hs1 hs2 hb2;have hS2:=hS1.bel hb2;have hkn:=hH.kn;have hn1:=hH.n1;refine abH hpre h02 hB2 hs2 hH hS2 ae ?_;intro e3 l vd y X3 gs3 W3 sl3 t3 q3 Y3 v3 he3 hl3 h03 hB3 hs3 hX1 hX2 Ij hk3 hLd hDd hR;have aiK:Sub v0 v3:=O5.trans ((tK hb2).trans Ij);have hz2:=hk2.size;have hz1:=hk1.size;have al6:KpX X W W3:=(hk1.trans hk2 λx hx=>.inl hx).trans hk3 λx hx=>.inl hx
  have hX3:∀b,X3 b->X b\/W.heap.size<=b:=λb hb=>(hX2 b hb).imp id λh=>ae
  have fin:∀(y:Value)(v4:World),rJ v3.heap.size v3 v4->agL M (λi=>sh (g i)) y v4->∀gs4 W4 sl4 t4 q4,gs4[0]?=some (G (fr.finish y) cs)->Fz Tryz.prog (uj X3) e3 gs4 W4 t4 q4->qH X3 Y3 W4 v4->Fin (crowd gs4 W4 sl4) t4:=λy v4 hb4 hA gs4 W4 sl4 t4 q4 h04 hB4 hs4=>
   hnext e3 g y X3 gs4 W4 sl4 t4 q4 Y3 v4 ae hP UA h04 hB4 hs4 hX1 hX3 (aiK.trans (tK hb4)) (al6.trans (AU hs3 hs4 hb4) hX3) hA
  let St4:Goroutine->World->Prop:=λgr W=>∃y v4,rJ v3.heap.size v3 v4/\agL M (λi=>sh (g i)) y v4/\gr=G (fr.finish y) cs/\qH X3 Y3 W v4
  rcases hR with⟨rfl,akA,hun⟩|⟨ev,p,rfl,hch,hno⟩
  .have UC:=aaJ (Stop:=St4) (Y:=Y3) (cs:=fr::cs) (w:=v3) (vd:=vd) (ve:=.nilIface) (yO X3) hT2 (λT4 hT4=>FK.2 (aiL (Stop:=St4) (l:=l) (yO X3) hT4 (hS2.sub Ij) hM0 hLd (by rw[hl3];exact hDd) (hG1 0 hM0).ln hl3.symm (by have:=hH.t1;omega) (λgb vb w' b1 b2 _ z hz=>.stop λd=>⟨_,w',b2,.inr (.inr ⟨hE,l,gb,vb,⟨hl3,akA⟩,λl' h'=>hun l' h'.1 h'.2,rfl,b1⟩),rfl,hz.at d⟩)));exact arV
  .have UC:=aaJ (Stop:=St4) (Y:=Y3) (cs:=fr::cs) (w:=v3) (vd:=.slice none 0 0) (ve:=ev) (yO X3) hT2 (λT4 hT4=>FK.2 (aiM (Stop:=St4) (yO X3) hT4 hch (λev' w' b1 b2 z hz=>.stop λd=>⟨_,w',b2,.inr (.inl ⟨hE,hno,ev',p,rfl,b1⟩),rfl,hz.at d⟩)));exact arV
 .let St4:Goroutine->World->Prop:=λgr W=>∃y v4,rJ v1.heap.size v1 v4/\agL M (λi=>sh (g i)) y v4/\gr=G (fr.finish y) cs/\qH X Y W v4
  have UC:=akB (Stop:=St4) (Y:=Y) (cs:=cs) (fr:=fr) (yO X) hT hS1 hM hE hz (λev p w' b1 b2 z hz'=>.stop λd=>⟨_,w',b2,.inl ⟨err,ev,p,hE,hz,rfl,b1⟩,rfl,hz'.at d⟩);refine late (Fin:=Fin) (Shun:=uj X) (e:=e) hpre (λ_ _ _ h=>h) (λgs4 a4 W4 sl4 t4 q4 h04 hst hB4=>?_) (UC W1 hs1) W1.drawn gs1 sl1 t1 q1 h01 hB1;obtain⟨y,v4,b1,b2,rfl,b3⟩:=hst W4.drawn;replace b3:qH X Y W4 v4:=b3;exact hnext e g y X gs4 W4 sl4 t4 q4 Y v4 ae hP UA h04 hB4 b3 (λ_ h=>h) (λ_ h=>.inl h) (O5.trans (tK b1)) (hk1.trans (AU hs1 b3 b1) λx hx=>.inl hx) b2
