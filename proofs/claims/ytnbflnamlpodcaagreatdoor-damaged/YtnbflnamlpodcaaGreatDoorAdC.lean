import Derived.Test.YtnbflnamlpodcaaGreatDoorPwA
set_option maxHeartbeats 1000000
set_option maxRecDepth 100000
namespace Go.Proofs.Y
theorem aab{x y:List UInt8}{i:Nat}(h:i<x.length):tJ (x++y) i=tJ x i:=by simp only[tJ,aO];rw[fF h]
theorem Xg{x y:List UInt8}{i:Nat}(h:x.length<=i):tJ (x++y) i=tJ y (i-x.length):=by simp only[tJ,aO];rw[iW h]
theorem afs(x y:List UInt8):part (x++y) 0 x.length=x:=oP
theorem aft(x y:List UInt8):part (x++y) x.length y.length=y:=oP
theorem ahk(x y z:List UInt8):part (x++(y++z)) x.length y.length=y:=oP
theorem Xh(ws x:List UInt8):BO (ws++x) ws=none:=by rw[Fp];intro i hi;rw[aab ae];rfl
theorem acC(x y z:List UInt8):le (x++(y++z)) x.length y.length=le y 0 y.length:=by have:=(acD x y z).num y.length 0 ae;rwa[dU,eY]at this
theorem JV{n v:Nat}(h:v<256^n):le (uP n v) 0 n=v:=by rw[acE,aZ h]
theorem Py{s:St}{l:List UInt8}(h:s.sz=l.length+8):yO s (rf l)=none/\part (rf l) 0 ((rf l).length-8)=l:=by
 have e1:(rf l).length-8=l.length:=auN;have e2:part (rf l) 0 l.length=l:=afs _ _;refine⟨?_,by rw[e1,e2]⟩;unfold yO;rw[ah auN,e1,e2]
 have e3:part (rf l) l.length 8=uP 8 (sumOf l):=by have:=aft l (uP 8 (sumOf l));rwa[qU]at this
 rw[e3,JV (by have:=IJ l;simpa using this),aj rfl]
def QE(p:List UInt8×Nat):List UInt8:=uP 2 p.1.length++(p.1++uP 4 p.2)
def u_(ps:List (List UInt8×Nat)):List UInt8:=ps.flatMap QE
theorem NI(p:List UInt8×Nat):(QE p).length=6+p.1.length:=by simp[QE,qU];omega
def Asc:List (List UInt8)->List (List UInt8)->Prop
 |_,[]=>True
 |ns,p::r=>(1<=p.length/\p.length<=255)/\(0<ns.length->uZ p (ns.getD (ns.length-1) [])=false)/\Asc (ns++[p]) r
theorem ahl{l:List (List UInt8)}(h:vV l):∀(r x:List (List UInt8)),l=x++r->Asc x r
 |[],_,_=>trivial
 |p::r,x,e=>by
  have hx:x.length<l.length:=by rw[e];simp
  have h1:=h x.length hx;have e1:l.getD x.length []=p:=by rw[e];simp
  rw[e1]at h1;refine⟨h1.1,λh0=>?_,ahl h r _ (by rw[e];simp)⟩;have h2:=h1.2 h0
  have e2:l.getD (x.length-1) []=x.getD (x.length-1) []:=by rw[e];simp only[aO];rw[fF ae]
  rw[e2]at h2;exact h2
theorem ahm:∀(r x:List (List UInt8)),vV x->Asc x r->vV (x++r)
 |[],x,h,_=>by rwa[dD]
 |p::r,x,h,ha=>by
  obtain⟨h1,h2,h3⟩:=ha;have:=ahm r (x++[p]) (λi hi=>?_) h3
  .rwa[dU]at this
  .have JQ:i<x.length+1:=mV;rcases aQ i x.length with q|q
   .have e1:∀j,j<x.length->(x++[p]).getD j []=x.getD j []:=λj hj=>by
     simp only[aO];rw[fF hj]
    rw[e1 i q,e1 (i-1) ae];exact h i q
   .obtain rfl:i=x.length:=ae;have e1:(x++[p]).getD x.length []=p:=by simp
    rw[e1];refine⟨h1,λh0=>?_⟩
    have e2:(x++[p]).getD (x.length-1) []=x.getD (x.length-1) []:=by simp only[aO];rw[fF ae]
    rw[e2];exact h2 h0
theorem Xi:∀(ps:List (List UInt8×Nat))(x:List UInt8)(ns:List (List UInt8))(zs:List Nat),Asc ns (ps.map Prod.fst)->zs.sum+(ps.map Prod.snd).sum<=65536->yX (x++u_ ps) ps.length x.length ns zs=.ok (ns++ps.map Prod.fst,zs++ps.map Prod.snd)
 |[],x,ns,zs,_,_=>by simp[yX,u_]
 |p::ps,x,ns,zs,ha,hz=>by
  obtain⟨nm,z⟩:=p;obtain⟨⟨l1,l2⟩,ho,ha⟩:=ha;simp only[fE,jk]at hz l1 l2 ho ha⊢;have eu:x++u_ ((nm,z)::ps)=x++(uP 2 nm.length++(nm++(uP 4 z++u_ ps))):=by simp[u_,QE]
  have eu2:x++u_ ((nm,z)::ps)=(x++QE (nm,z))++u_ ps:=by simp[u_]
  have hl:(x++u_ ((nm,z)::ps)).length=x.length+6+nm.length+(u_ ps).length:=by rw[eu2,aS,aS,NI];simp only;omega
  have e1:le (x++u_ ((nm,z)::ps)) x.length 2=nm.length:=by rw[eu];have:=acC x (uP 2 nm.length) (nm++(uP 4 z++u_ ps));rw[qU]at this;rw[this,JV ae]
  have e2:part (x++u_ ((nm,z)::ps)) (x.length+2) nm.length=nm:=by rw[eu,<-dU];have:=ahk (x++uP 2 nm.length) nm (uP 4 z++u_ ps);rwa[aS,qU]at this
  have e3:le (x++u_ ((nm,z)::ps)) (x.length+2+nm.length) 4=z:=by rw[eu,<-dU,<-dU];have:=acC (x++uP 2 nm.length++nm) (uP 4 z) (u_ ps);rw[aS,aS,qU,qU]at this;rw[this,JV ae]
  have hb:xw (x++u_ ((nm,z)::ps)) x.length ns zs=.ok (nm,z):=by unfold xw;rw[e1,e2,e3,ah ae,ah (λq=>by rw[ho q.1]at q;exact absurd q.2 ai),ah ae]
  show yX _ (ps.length+1) _ _ _=_;unfold yX;rw[hb];simp only;have:=Xi ps (x++QE (nm,z)) (ns++[nm]) (zs++[z]) ha (by simp only[iG,jk,mg];omega);rw[aS,NI]at this;rw[eu2,this];simp
theorem Xj{ns:List (List UInt8)}{zs:List Int}(h:ns.length=zs.length):wS ns zs ns.length=uP 4 ns.length++u_ (ns.zip (zs.map Int.toNat)):=by
 unfold wS u_
 congr 1
 rw[List.flatMap_def,List.flatMap_def]
 congr 1
 apply auf
 .simp;omega
 .intro i h1 h2;have hi:i<ns.length:=gQ;have hz:i<zs.length:=ae;simp[QE,a_ hi,a_ hz]
theorem ahc{ns:List (List UInt8)}{zs:List Int}(h:ns.length=zs.length)(hn:vV ns)(hl:ns.length<=1000)(hz:EG zs<=65536):zV (wS ns zs ns.length)=.ok (ns,zs.map Int.toNat):=by
 have hzl:(zs.map Int.toNat).length=ns.length:=by simp[h]
 have m1:(ns.zip (zs.map Int.toNat)).map Prod.fst=ns:=List.map_fst_zip ae;have m2:(ns.zip (zs.map Int.toNat)).map Prod.snd=zs.map Int.toNat:=List.map_snd_zip ae;have hlz:(ns.zip (zs.map Int.toNat)).length=ns.length:=by rw[List.length_zip];omega
 have:=Xi (ns.zip (zs.map Int.toNat)) (uP 4 ns.length) [] [] (by rw[m1];exact ahl hn ns [] rfl) (by rw[m2];simpa[EG]using hz);rw[m1,m2,hlz,qU]at this;unfold zV;rw[Xj h]
 have e0:le (uP 4 ns.length++u_ (ns.zip (zs.map Int.toNat))) 0 4=ns.length:=by have:=acC [] (uP 4 ns.length) (u_ (ns.zip (zs.map Int.toNat)));rw[qU]at this;simp only[bg,dB]at this;rw[this,JV ae]
 rw[e0,ah ae,this];rfl
def frL(c:Nat):Nat->List UInt8->List (List UInt8)
 |0,_=>[]
 |f+1,r=>if r=[]then[]else rf (r.take c)::frL c f (r.drop c)
theorem aac(c:Nat)(r:List UInt8)(k:Nat):xK c r (k+1)=xK c (r.drop c) k:=by unfold xK part;rw[og,g_,show c+k*c=(k+1)*c by rw[kF,l9,iQ],show r.length-(k+1)*c=r.length-c-k*c by rw[kF,l9];omega]
theorem TG{c:Nat}(hc:1<=c):∀(f:Nat)(r:List UInt8),r.length<=f->(frL c f r).flatten=rO c r (GI c r.length)
 |0,r,h=>by have:r=[]:=kN.1 ae;subst this;have:GI c 0=0:=avp;simp[frL,rO,this]
 |f+1,r,h=>by
  by_cases hr:r=[]
  .subst hr;have:GI c 0=0:=avp;simp[frL,rO,this]
  .have hp:0<r.length:=kK.2 hr
   have hn:GI c r.length=GI c (r.drop c).length+1:=by
    unfold GI;rw[g_];rcases aQ r.length c with q|q
    .rw[show r.length-c=0 by omega,mf (show 0+c-1<c by omega),avf]<;>omega
    .rw[show r.length+c-1=(r.length-c+c-1)+c by omega,Nat.add_div_right _ ae]
   unfold frL;rw[ah hr,jq,TG hc f (r.drop c) au1,hn];unfold rO;rw[List.range_succ_eq_map,List.flatMap_cons]
   congr 1
   .unfold xK part;rw[fH,kS,atY]
    congr 1
    rcases aQ r.length c with q|q
    .rw[Nat.min_eq_right ae,iF ae,iF ae]
    .rw[nJ q]
   .rw[List.flatMap_map];refine aP (λg=>(List.range (GI c (r.drop c).length)).flatMap g) (funext λk=>?_);exact(aac c r k).symm
theorem TI{c:Nat}(hc:1<=c)(ts:List (List UInt8)):∀(f:Nat)(r:List UInt8)(s:St),r.length<=f->s.nx=(if r=[]then 3 else 2)->s.c=c->s.ln=s.qy.length+r.length->(∀m,m<s.ln->A8 s.k s.i s.tt<=(m:Int)->tJ (s.qy++r) m=0)->
  ∃pl,KH s (frL c f r++ts)=KH {s with qy:=s.qy++r,nx:=3,pl:=pl} ts
 |0,r,s,hf,hx,_,_,_=>by have:r=[]:=kN.1 ae;subst this;refine⟨s.pl,?_⟩;rw[aj rfl]at hx;obtain⟨k,n,i,c',ns,zs,qy,m,ln,tt,nx,pl⟩:=s;simp only at hx;subst hx;simp[frL]
 |f+1,r,s,hf,hx,hsc,O0,hp=>by
  by_cases hr:r=[]
  .subst hr;refine⟨s.pl,?_⟩;rw[aj rfl]at hx;obtain⟨k,n,i,c',ns,zs,qy,m,ln,tt,nx,pl⟩:=s;simp only at hx;subst hx;simp[frL]
  .rw[ah hr]at hx;have L6:0<r.length:=kK.2 hr
   have hsz:s.sz=(r.take c).length+8:=by rw[sz2 hx,hsc,O0,gZ,gB]
   obtain⟨g1,g2⟩:=Py hsz
   have arD:RQ (r.take c) (A8 s.k s.i s.tt-(s.qy.length:Int))=none:=by rw[Fq];intro m hm hF;have VB:m<r.length:=avZ;have:=hp (s.qy.length+m) ae ae;rw[Xg ae,gZ]at this;rw[<-this];simp only[tJ,aO];rw[List.getElem?_take_of_lt avZ]
   have xW:uX s (rf (r.take c))=.ok {s with qy:=s.qy++r.take c}:=by unfold uX;rw[ah ae,ah ae,aj hx];unfold Ec;rw[g1,g2];simp only;rw[arD]
   have e1:s.qy++r.take c++r.drop c=s.qy++r:=by rw[dU,nS]
   obtain⟨pl,h⟩:=TI hc ts f (r.drop c) (sV {s with qy:=s.qy++r.take c} (rf (r.take c))) au1 (by
     show xx _=_;unfold xx;simp only;rw[ah ae,ah ae,O0,aS,gB];by_cases q:r.drop c=[]
     .rw[aj q,ah];have:=aP List.length q;rw[g_,dB]at this;omega
     .have:=kK.2 q;rw[g_]at this;rw[ah q,aj ae]) hsc (by
     show s.ln=(s.qy++r.take c).length+_;rw[O0,aS,gB,g_];omega) (by
     show∀m,m<s.ln->A8 s.k s.i s.tt<=(m:Int)->tJ (s.qy++r.take c++r.drop c) m=0;rw[e1];exact hp)
   refine⟨pl,?_⟩;unfold frL;rw[ah hr,aV]
   conv=>lhs;unfold KH
   rw[aj ⟨by rw[sO];exact hsz.symm,ae⟩,xW];refine h.trans ?_;show KH {s with qy:=s.qy++r.take c++r.drop c,nx:=3,pl:=pl} ts=_;rw[e1]
def pieces(s:Sh):List (List UInt8):=rf (ug s (x8 s).length)::rf (x8 s)::(frL s.C.toNat s.qy.length s.qy++[uQ])
theorem aad{s:Sh}(h:1<=s.C):(pieces s).flatten=RS s:=by unfold pieces RS;rw[jq,jq,aue,TG ae _ _ (ak _)];simp[uQ]
def Xk(s:Sh):xg:=⟨s.K.toNat,s.N.toNat,s.I.toNat,s.C.toNat,s.ns,s.zs.map Int.toNat,s.qy⟩
theorem FV(s:Sh)(m:Nat):(ug s m).length=24:=by simp[ug,qU]
theorem ahn{s:Sh}(hF:s.O1){m:Nat}(hm:4<=m)(hm2:m<=300000)(hl:s.qy.length<=65536)(ts:List (List UInt8)):KH St0 (rf (ug s m)::ts)=KH ⟨s.K.toNat,s.N.toNat,s.I.toNat,s.C.toNat,[],[],[],m,s.qy.length,0,1,32⟩ ts:=by
 have hz:St0.sz=(ug s m).length+8:=by rw[FV];rfl
 obtain⟨g1,_⟩:=Py hz;have ha:At (rf (ug s m)) 0 (ug s m):=acD [] (ug s m) _
 have hn:∀j n,j+n<=24->le (rf (ug s m)) j n=le (ug s m) j n:=λj n h=>by have:=ha.num n j (by rw[FV];exact h);rwa[aT]at this
 obtain⟨k1,kn,n1,i0,iN,c1,c2⟩:=hF;have e6:le (rf (ug s m)) 6 1=s.K.toNat:=by rw[hn 6 1 ae];simp[ug,le,tJ,b8];omega
 have e7:le (rf (ug s m)) 7 1=s.N.toNat:=by rw[hn 7 1 ae];simp[ug,le,tJ,b8];omega
 have e8:le (rf (ug s m)) 8 1=s.I.toNat:=by rw[hn 8 1 ae];simp[ug,le,tJ,b8];omega
 have e9:le (rf (ug s m)) 9 1=0:=by rw[hn 9 1 ae];simp[ug,le,tJ]
 have e10:le (rf (ug s m)) 10 4=s.C.toNat:=by rw[hn 10 4 ae];simp[ug,le,tJ,uP];omega
 have e14:le (rf (ug s m)) 14 4=m:=by rw[hn 14 4 ae];simp[ug,le,tJ,uP];omega
 have e18:le (rf (ug s m)) 18 4=s.qy.length:=by rw[hn 18 4 ae];simp[ug,le,tJ,uP];omega
 have e22:le (rf (ug s m)) 22 2=0:=by rw[hn 22 2 ae];simp[ug,le,tJ,uP]
 have eb:BO (rf (ug s m)) Ba=none:=by
  have:rf (ug s m)=Ba++(([b8 s.K,b8 s.N,b8 s.I,0]++(uP 4 s.C.toNat++(uP 4 m++(uP 4 s.qy.length++[0,0]))))++uP 8 (sumOf (ug s m))):=by
   unfold rf
   conv=>lhs;unfold ug
   simp only[dU];rfl
  rw[this];exact Xh _ _
 have en:vM (yY (rf (ug s m)))=none:=by unfold yY;rw[e6,e7,e8,e9,e10,e14,e18,e22];unfold vM;rw[ah ae];unfold vM;rw[ah ae];unfold vM;rw[ah ae];unfold vM;rw[ah ae];unfold vM;rw[ah ae];unfold vM;rw[ah ae];unfold vM;rw[ah ae];unfold vM;rw[ah ae];rfl
 have hr:uX St0 (rf (ug s m))=.ok ⟨s.K.toNat,s.N.toNat,s.I.toNat,s.C.toNat,[],[],[],m,s.qy.length,0,0,0⟩:=by unfold uX;rw[aj (show St0.nx=0 from rfl)];unfold IK;rw[eb];simp only;rw[g1];simp only;rw[en];simp only;rw[e6,e7,e8,e10,e14,e18];rfl
 conv=>lhs;unfold KH
 rw[aj ⟨by rw[sO];exact hz.symm,au⟩,hr];simp only;unfold sV;rw[sO,FV];rfl
theorem ak1{s:Sh}(hL:s.Listed)(hW:s.Few)(hG:s.RU)(ts:List (List UInt8)):∃pl,KH ⟨s.K.toNat,s.N.toNat,s.I.toNat,s.C.toNat,[],[],[],(x8 s).length,s.qy.length,0,1,32⟩ (rf (x8 s)::ts)=KH ⟨s.K.toNat,s.N.toNat,s.I.toNat,s.C.toNat,s.ns,s.zs.map Int.toNat,[],(x8 s).length,s.qy.length,EG s.zs,if s.qy=[]then 3 else 2,pl⟩ ts:=by
 obtain⟨g1,g2⟩:=Py (s:=⟨s.K.toNat,s.N.toNat,s.I.toNat,s.C.toNat,[],[],[],(x8 s).length,s.qy.length,0,1,32⟩) (l:=x8 s) (sz1 rfl);have hl:zV (x8 s)=.ok (s.ns,s.zs.map Int.toNat):=ahc hL.len hL.names hW.aho hW.bytes
 have hr:uX ⟨s.K.toNat,s.N.toNat,s.I.toNat,s.C.toNat,[],[],[],(x8 s).length,s.qy.length,0,1,32⟩ (rf (x8 s))=.ok ⟨s.K.toNat,s.N.toNat,s.I.toNat,s.C.toNat,s.ns,s.zs.map Int.toNat,[],(x8 s).length,s.qy.length,EG s.zs,1,32⟩:=by unfold uX;rw[ah ai,aj rfl];unfold TJ;rw[g1,g2];simp only;rw[hl];simp only;rw[aj (by exact hG)];rfl
 refine⟨32+((x8 s).length+8),?_⟩
 conv=>lhs;unfold KH
 rw[aj ⟨by rw[sO,sz1 rfl],ai⟩,hr];simp only;unfold sV;rw[sO];simp only
 congr 2
 unfold xx;simp only;rw[ah au,ah au];by_cases q:s.qy=[]
 .rw[aj q,ah (by rw[q];simp)]
 .have:=kK.2 q;rw[ah q,aj (by simpa using this)]
theorem anp{s:Sh}(hF:s.O1)(hL:s.Listed)(hW:s.Few)(hG:s.RU)(hB:¬s.Bad):∃st,KH St0 (pieces s)=some st/\st.nx=4/\st.shd=Xk s:=by
 have hk:1<=s.K.toNat:=by have:=hF.k1;omega
 have hl:s.qy.length<=65536:=by have h1:=Du (t:=EG s.zs) hk;have h2:=hW.bytes;have h3:s.qy.length=_:=hG;omega
 have hm:(x8 s).length=IL s.ns:=BP s;have hm4:4<=IL s.ns:=by unfold IL;omega
 unfold pieces;rw[ahn hF ae (by have:=hW.NJ;omega) hl];obtain⟨p1,e1⟩:=ak1 hL hW hG (frL s.C.toNat s.qy.length s.qy++[uQ]);rw[e1]
 obtain⟨p2,e2⟩:=TI (c:=s.C.toNat) (by have:=hF.c1;omega) [uQ] s.qy.length s.qy ⟨s.K.toNat,s.N.toNat,s.I.toNat,s.C.toNat,s.ns,s.zs.map Int.toNat,[],(x8 s).length,s.qy.length,EG s.zs,if s.qy=[]then 3 else 2,p1⟩ (ak _) rfl rfl ai (by
  intro m hm hu;simp only[bg]at hm hu⊢;by_cases q:tJ s.qy m=0
  .exact q
  .exfalso;have h3:s.qy.length=_:=hG;unfold A8 at hu;by_cases hki:s.K.toNat<=s.I.toNat
   .rw[aj hki]at hu;omega
   .rw[ah hki]at hu;refine hB ⟨by have:=hF.k1;omega,m,hm,?_,q⟩;omega)
 rw[e2];refine⟨sV ⟨s.K.toNat,s.N.toNat,s.I.toNat,s.C.toNat,s.ns,s.zs.map Int.toNat,[]++s.qy,(x8 s).length,s.qy.length,EG s.zs,3,p2⟩ uQ,?_,?_,?_⟩
 .unfold KH;rw[aj ⟨(sz3 rfl).symm,ai⟩]
  have:uX ⟨s.K.toNat,s.N.toNat,s.I.toNat,s.C.toNat,s.ns,s.zs.map Int.toNat,[]++s.qy,(x8 s).length,s.qy.length,EG s.zs,3,p2⟩ uQ=.ok ⟨s.K.toNat,s.N.toNat,s.I.toNat,s.C.toNat,s.ns,s.zs.map Int.toNat,[]++s.qy,(x8 s).length,s.qy.length,EG s.zs,3,p2⟩:=by
   unfold uX;rw[ah ai,ah ai,ah ai];unfold IM;have:BO uQ uQ=none:=by simpa using Xh uQ []
   rw[this];simp only;rw[ah (by rw[sz3 rfl];decide)]
  simp only at this⊢;rw[this];rfl
 .rfl
 .simp[St.shd,Xk,sV]
theorem ahp{s:Sh}(hF:s.O1)(hL:s.Listed)(hW:s.Few)(hG:s.RU)(hB:¬s.Bad)(x:List UInt8):qP (RS s++x)=if x=[]then .ok (Xk s)else .error (9,(RS s).length):=by obtain⟨st,h1,h2,h3⟩:=anp hF hL hW hG hB;rw[<-aad hF.c1,<-h3];exact afu h1 h2 x
theorem um(z:List UInt8)(a n m:Nat):part z a (n+m)=part z a n++part z (a+n) m:=by unfold part;rw[List.take_add,og]
theorem xy{z:List UInt8}{a n:Nat}(h:a+n<=z.length):part z a n=uP n (le z a n):=by have h1:=acF (part z a n);rw[qF h,ak2 h]at h1;exact h1.symm
theorem TM{z:List UInt8}{a n:Nat}(h:zW z a n=none):a+n+8<=z.length/\part z a (n+8)=rf (part z a n):=by
 have hl:=afv h;refine⟨hl,?_⟩;unfold zW at h;rw[ah ae]at h;split at h
 .rename_i e;rw[um,e];rfl
 .cases h
theorem Yx(z:List UInt8):∀(ws:List UInt8)(a:Nat),a<=z.length->CU z a ws=none->a+ws.length<=z.length/\part z a ws.length=ws
 |[],a,ha,_=>⟨ha,oP⟩
 |c::ws,a,_,h=>by
  unfold CU at h;split at h
  .cases h
  .rename_i hl;split at h
   .rename_i hc;obtain⟨h1,h2⟩:=Yx z ws (a+1) ae h;refine⟨by rw[bQ];omega,?_⟩;rw[bQ,iQ,um,h2,xy ae];show UInt8.ofNat ((tJ z a+256*0)%256)::([]++ws)=_;rw[hc];have:=lY c;rw[show(c.toNat+256*0)%256=c.toNat by omega];simp
   .cases h
theorem aae(u:List UInt8):∀(c a:Nat)(ns:List (List UInt8))(zs:List Nat)(ns':List (List UInt8))(zs':List Nat),a<=u.length->yX u c a ns zs=.ok (ns',zs')->
  ∃ps:List (List UInt8×Nat),ps.length=c/\ns'=ns++ps.map Prod.fst/\zs'=zs++ps.map Prod.snd/\u.drop a=u_ ps/\Asc ns (ps.map Prod.fst)
 |0,a,ns,zs,ns',zs',ha,h=>by
  unfold yX at h;split at h
  .cases h
  .cases h;refine⟨[],rfl,ai,ai,?_,trivial⟩;rw[aug ae];rfl
 |c+1,a,ns,zs,ns',zs',ha,h=>by
  unfold yX at h;cases hb:xw u a ns zs with
  |error e=>rw[hb]at h;cases h
  |ok x=>
   obtain⟨nm,z⟩:=x;rw[hb]at h;simp only at h;unfold xw at hb;split at hb
   .cases hb
   .rename_i q1;split at hb
    .cases hb
    .rename_i q2;split at hb
     .cases hb
     .rename_i q3;simp only[Except.ok.injEq,lZ]at hb;obtain⟨e1,e2⟩:=hb;have hl:nm.length=le u a 2:=by rw[<-e1];exact qF ae
      obtain⟨ps,g1,g2,g3,g4,g5⟩:=aae u c _ _ _ _ _ m_ h;refine⟨(nm,z)::ps,by simp[g1],by simp[g2],by simp[g3],?_,⟨by simp only;omega,λh0=>?_,g5⟩⟩
      .have d1:u.drop a=part u a 2++(part u (a+2) (le u a 2)++(part u (a+2+le u a 2) 4++u.drop (a+(6+nm.length)))):=by
        have t:∀b n,u.drop b=part u b n++u.drop (b+n):=λb n=>by unfold part;rw[<-og,nS]
        rw[t a 2,t (a+2) (le u a 2),t (a+2+le u a 2) 4,hl,show a+2+le u a 2+4=a+(6+le u a 2)by omega]
       rw[d1,g4,xy (a:=a) (n:=2) ae,e1,xy (a:=a+2+le u a 2) (n:=4) ae,e2,<-hl];simp[u_,QE]
      .have:=λq=>q2 ⟨h0,q⟩
       rw[e1]at this;exact aww
theorem aeu{en:Int}:∀{p:List UInt8}{a m:Nat},GK en a m p=none->∀j,j<p.length->en<=((m+j:Nat):Int)->tJ p j=0
 |[],_,_,_,j,hj,_=>by simp at hj
 |b::p,a,m,h,j,hj,he=>by
  unfold GK at h;split at h
  .rename_i q;cases j with
   |zero=>
    rcases q with q|q
    .omega
    .simpa[tJ]using q
   |succ j=>
    rw[IP];exact aeu h j jb ae
  .cases h
theorem TN{z:List UInt8}{low:Bool}{c ln:Nat}{en:Int}(hc:1<=c):∀(f a:Nat)(qy ahq:List UInt8)(a':Nat),yH z low c ln en f a qy=.ok (ahq,a')->qy.length<=ln->ln<=f+qy.length->a<=z.length->
  ∃r,ahq=qy++r/\ahq.length=ln/\a<=a'/\a'<=z.length/\part z a (a'-a)=(frL c f r).flatten/\(low=true->∀j,j<r.length->en<=((qy.length+j:Nat):Int)->tJ r j=0)
 |0,a,qy,ahq,a',h,h1,h2,h3=>by unfold yH at h;cases h;exact⟨[],ai,ae,ak _,h3,by simp[part,frL],λ_ j hj=>by simp at hj⟩
 |f+1,a,qy,ahq,a',h,h1,h2,h3=>by
  unfold yH at h;split at h
  .cases h;exact⟨[],ai,ae,ak _,h3,by simp[part,frL],λ_ j hj=>by simp at hj⟩
  .rename_i qE;cases hs:zW z a (min (ln-qy.length) c)with
   |some e=>rw[hs]at h;cases h
   |none=>
    rw[hs]at h;simp only at h;obtain⟨s1,s2⟩:=TM hs;cases hp:(if low=true then GK en a qy.length (part z a (min (ln-qy.length) c))else none)with
    |some e=>rw[hp]at h;cases h
    |none=>
     rw[hp]at h;simp only at h;have vP:(part z a (min (ln-qy.length) c)).length=min (ln-qy.length) c:=qF ae;obtain⟨r,g1,g2,g3,g4,g5,g6⟩:=TN hc f _ _ _ _ h av2 av2 ae
     have hr:r.length=ln-qy.length-min (ln-qy.length) c:=by have:=aP List.length g1;rw[aS,aS,vP,g2]at this;omega
     have ht:(part z a (min (ln-qy.length) c)++r).take c=part z a (min (ln-qy.length) c)/\(part z a (min (ln-qy.length) c)++r).drop c=r:=by
      rcases aQ (ln-qy.length) c with q|q
      .have:r=[]:=kN.1 ae;rw[this,dD,iF ae,aug ae];exact⟨rfl,rfl⟩
      .have:c=(part z a (min (ln-qy.length) c)).length:=ae;constructor
       .conv=>lhs;arg 1;rw[this]
        simp
       .conv=>lhs;arg 1;rw[this]
        simp
     refine⟨part z a (min (ln-qy.length) c)++r,by rw[g1,dU],g2,ae,g4,?_,λuy j hj he=>?_⟩
     .unfold frL;rw[ah,ht.1,ht.2,jq,<-g5,<-s2]
      .rw[show a'-a=(min (ln-qy.length) c+8)+(a'-(a+min (ln-qy.length) c+8))by omega,um,dw a]
      .intro e;have:=aP List.length e;rw[aS,vP]at this;simp at this;omega
     .rcases aQ j (min (ln-qy.length) c)with q|q
      .rw[aab ae];rw[aj uy]at hp;exact aeu hp j ae he
      .rw[Xg ae,vP];refine g6 uy _ (by rw[aS,vP]at hj;omega) ?_;rw[aS,vP];omega
theorem aaf:∀(ps:List (List UInt8×Nat)),(ps.map Prod.fst).zip (ps.map Prod.snd)=ps
 |[]=>rfl
 |p::ps=>by rw[fE,fE,List.zip_cons_cons,aaf ps]
def xg.sh(d:xg):Sh:=⟨d.k,d.n,d.i,d.c,d.names,d.sizes.map Int.ofNat,d.qy⟩
theorem NK(l:List Nat):(l.map Int.ofNat).map Int.toNat=l:=by
 rw[jo]
 conv=>rhs;rw[<-List.map_id l]
 rfl
theorem Xl{z:List UInt8}{d:xg}(h:qP z=.ok d):d.sh.O1/\d.sh.Listed/\d.sh.Few/\d.sh.RU/\¬d.sh.Bad/\RS d.sh=z:=by
 unfold qP at h;cases hh:FW z with
 |some e=>rw[hh]at h;cases h
 |none=>
  rw[hh]at h;simp only at h;cases hn:Ed z (le z 14 4)with
  |error e=>rw[hn]at h;cases h
  |ok x=>
   obtain⟨ns,zs⟩:=x;rw[hn]at h;simp only at h;split at h
   .rename_i hlen;split at h
    .cases h
    .rename_i qy a hf;split at h
     .cases h
     .rename_i ho;cases h;unfold FW at hh;cases h1:CU z 0 Ba with
      |some e=>rw[h1]at hh;cases hh
      |none=>
       rw[h1]at hh;cases h2:zW z 0 24 with
       |some e=>rw[h2]at hh;cases hh
       |none=>
        rw[h2]at hh;have hr:TP none (le z 6 1) (le z 7 1) (le z 8 1) (le z 9 1) (le z 10 4) (le z 14 4) (le z 18 4) (le z 22 2)=none:=hh;obtain⟨k1,k2,n1,n2,iN,z0,c1,c2,m1,m2,l1,y0⟩:=Md hr;obtain⟨s1,s2⟩:=TM h2;obtain⟨_,f2⟩:=Yx z Ba 0 ae h1;unfold Ed at hn;cases h3:zW z 32 (le z 14 4)with
        |some e=>rw[h3]at hn;cases hn
        |none=>
         rw[h3]at hn;simp only at hn;obtain⟨t1,t2⟩:=TM h3;split at hn
         .cases hn
         .rename_i atE;have hu:(part z 32 (le z 14 4)).length=le z 14 4:=qF ae;have hA:At z 32 (part z 32 (le z 14 4)):=At.Yy z ae
          have e4:le z 32 4=le (part z 32 (le z 14 4)) 0 4:=by have:=hA.num 4 0 ae;rwa[eY]at this
          rw[show(36:Nat)=32+4 from rfl,Me hA hu _ 4 [] [] ae ai]at hn;cases hl:yX (part z 32 (le z 14 4)) (le z 32 4) 4 [] []with
          |error e=>rw[hl]at hn;cases hn
          |ok x=>
           rw[hl]at hn;cases hn;have hsum:=JW _ _ _ _ _ ai hl;obtain⟨ps,g1,g2,g3,g4,g5⟩:=aae _ _ _ _ _ _ _ ae hl;rw[bg]at g2 g3;have GH:ns.length=le z 32 4:=by rw[g2,iT,g1]
           have hzl:zs.length=le z 32 4:=by rw[g3,iT,g1]
           have akA:EG (zs.map Int.ofNat)=zs.sum:=by unfold EG;rw[NK]
           have afw:wS ns (zs.map Int.ofNat) ns.length=part z 32 (le z 14 4):=by rw[Xj (by rw[iT];omega),NK,g2,g3,aaf,<-g2,GH,<-g4,e4];have h0:=xy (z:=part z 32 (le z 14 4)) (a:=0) (n:=4) ae;rw[<-h0];unfold part;rw[kS,nS]
           obtain⟨r,q1,q2,q3,q4,q5,q6⟩:=TN c1 _ _ _ _ _ hf ai ai ae;rw[bg]at q1;subst q1;cases h5:CU z a uQ with
           |some e=>rw[h5]at ho;cases ho
           |none=>
            rw[h5]at ho
            have hz:z.length<=a+4:=by
             rcases aQ (a+4) z.length with q|q
             .have:yZ (decide (z.length<=a+4)) 9 (a+4)=none:=ho;rw[dP ae]at this;cases this
             .exact q
            obtain⟨v1,v2⟩:=Yx z uQ a q4 h5;have v1':a+4<=z.length:=v1;have apI:le z 18 4=tX (le z 6 1) zs.sum:=by rw[hlen,y8 hsum]
            refine⟨⟨?_,?_,?_,?_,?_,?_,?_⟩,⟨?_,?_,?_⟩,⟨?_,?_,?_⟩,?_,?_,?_⟩
            .show(1:Int)<=(le z 6 1:Nat);omega
            .show((le z 6 1:Nat):Int)<=(le z 7 1:Nat);omega
            .show((le z 7 1:Nat):Int)<=128;omega
            .show(0:Int)<=(le z 8 1:Nat);omega
            .show((le z 8 1:Nat):Int)<(le z 7 1:Nat);omega
            .show(1:Int)<=(le z 10 4:Nat);omega
            .show((le z 10 4:Nat):Int)<=65536;omega
            .show ns.length=(zs.map Int.ofNat).length;rw[iT];omega
            .show vV ns;have:=ahm (ps.map Prod.fst) [] (λi hi=>by simp at hi) g5;rwa[bg,<-g2]at this
            .intro i hi;have JQ:i<zs.length:=by simpa[xg.sh]using hi
             simp[xg.sh,a_ JQ]
            .show ns.length<=1000;omega
            .show EG (zs.map Int.ofNat)<=65536;rw[akA];exact hsum
            .show IL ns<=300000;have:=BP (⟨0,0,0,0,ns,zs.map Int.ofNat,[]⟩:Sh);have e:x8 (⟨0,0,0,0,ns,zs.map Int.ofNat,[]⟩:Sh)=part z 32 (le z 14 4):=afw;rw[e,hu]at this;have:le z 14 4=IL ns:=this;omega
            .show qy.length=tX (le z 6 1) (EG (zs.map Int.ofNat));rw[akA,q2,apI]
            .rintro⟨b1,m,b2,b3,b4⟩;have b1':((le z 8 1:Nat):Int)<(le z 6 1:Nat):=b1;have b2':m<qy.length:=b2;have b3':EG (zs.map Int.ofNat)<=le z 8 1*tX (le z 6 1) (EG (zs.map Int.ofNat))+m:=b3;rw[akA]at b3';refine b4 (q6 az m b2' ?_);have e1:CV zs=zs.sum:=by unfold CV;rw[aj hsum]
             rw[e1,y8 hsum];simp only[dB,aT];omega
            .have w1:ug (xg.sh ⟨le z 6 1,le z 7 1,le z 8 1,le z 10 4,ns,zs,qy⟩) (le z 14 4)=part z 0 24:=by
              have e1:part z 0 24=part z 0 6++(part z 6 1++(part z 7 1++(part z 8 1++(part z 9 1++(part z 10 4++(part z 14 4++(part z 18 4++part z 22 2))))))):=by exact(um z 0 6 18).trans (aP _ ((um z 6 1 17).trans (aP _ ((um z 7 1 16).trans (aP _ ((um z 8 1 15).trans (aP _ ((um z 9 1 14).trans (aP _ ((um z 10 4 10).trans (aP _ ((um z 14 4 6).trans (aP _ (um z 18 4 2))))))))))))))
              have f2':part z 0 6=[67,65,73,82,78,49]:=f2;rw[e1,f2',xy (a:=6) ae,xy (a:=7) ae,xy (a:=8) ae,xy (a:=9) ae,xy (a:=10) ae,xy (a:=14) ae,xy (a:=18) ae,xy (a:=22) ae,z0,y0];unfold ug;show[67,65,73,82,78,49]++([b8 (le z 6 1:Nat),b8 (le z 7 1:Nat),b8 (le z 8 1:Nat),0]++(uP 4 (le z 10 4)++(uP 4 (le z 14 4)++(uP 4 qy.length++[0,0]))))=_;rw[q2];rfl
             have w2:x8 (xg.sh ⟨le z 6 1,le z 7 1,le z 8 1,le z 10 4,ns,zs,qy⟩)=part z 32 (le z 14 4):=afw;unfold RS;rw[w2,hu,w1,<-s2,<-t2];show part z 0 32++part z 32 (le z 14 4+8)++rO (le z 10 4) qy (GI (le z 10 4) qy.length)++[68,79,78,69]=z;rw[<-TG c1 (le z 18 4) qy ae,<-q5];have v2':part z a 4=[68,79,78,69]:=v2;rw[<-v2'];have q3':32+le z 14 4+8<=a:=q3;rw[show part z 0 32=part z 0 (0+32)from rfl];have j1:=um z 0 32 (le z 14 4+8);have j2:=um z 0 (32+(le z 14 4+8)) (a-(32+le z 14 4+8));have j3:=um z 0 a 4;simp only[aT]at j1 j2 j3⊢;rw[<-j1];rw[show 32+(le z 14 4+8)=32+le z 14 4+8 by omega]at j2⊢;rw[<-j2,show 32+le z 14 4+8+(a-(32+le z 14 4+8))=a by omega,<-j3,show a+4=z.length by omega];unfold part;simp
   .cases h
end Go.Proofs.Y
namespace Go.Proofs.Y
open Go.RowKit Go.Deep Go.Lf Go.Conc Go.ConcN Go.Gh Go.Hp
structure ShG(d:xg):Prop where
 fine:d.sh.O1
 listed:d.sh.Listed
 few:d.sh.Few
 long:d.sh.RU
theorem aev{s t:xg}(h:RV s t=true):t.k=s.k/\t.n=s.n/\t.c=s.c/\t.names=s.names/\t.sizes=s.sizes:=by simp only[RV,fG,beq_iff_eq,gY]at h;obtain⟨⟨⟨⟨h1,h2⟩,h3⟩,h4⟩,h5⟩:=h;exact⟨ae,ae,ae,h4.symm,h5.symm⟩
theorem ShG.k1{d:xg}(h:ShG d):1<=d.k/\d.k<=d.n/\d.n<=128/\d.i<d.n:=by obtain⟨⟨a1,a2,a3,a4,a5,a6,a7⟩,_,_,_⟩:=h;simp only[xg.sh]at a1 a2 a3 a4 a5;omega
theorem ShG.EG{d:xg}(h:ShG d):d.sizes.sum<=65536:=by have:=h.few.bytes;rw[show d.sh.zs=d.sizes.map Int.ofNat from rfl,SY]at this;exact this
theorem ShG.qy{d:xg}(h:ShG d):d.qy.length=tX d.k d.sizes.sum:=by have:=h.long;unfold Sh.RU at this;rw[show d.sh.zs=d.sizes.map Int.ofNat from rfl,SY,show d.sh.K.toNat=d.k from rfl]at this;exact this
theorem ShG.ln{d:xg}(h:ShG d):d.names.length=d.sizes.length:=by have:=h.listed.len;simpa[xg.sh]using this
theorem apl{n:Nat}{x:Nat->Nat}(h:∀i,i+1<n->x i<x (i+1)):∀j i,i<j->j<n->x i<x j
 |0,i,h1,_=>by omega
 |j+1,i,h1,h2=>by
  have:=h j h2;rcases aQ i j with h3|h3
  .have:=apl h j i h3 ae;omega
  .obtain rfl:i=j:=ae;exact this
theorem aew{n:Nat}{x:Nat->Nat}(h:∀i,i+1<n->x i<x (i+1)):∀j,j<n->j<=x j
 |0,_=>by omega
 |j+1,h1=>by have:=h j h1;have:=aew h j ae;omega
def Lj(M:Nat)(sh:Nat->xg)(l:List UInt8):Prop:=l.length=(sh 0).sizes.sum/\aag (sh 0).k (tX (sh 0).k (sh 0).sizes.sum) M sh l
theorem anq{M:Nat}{sh:Nat->xg}(hG:∀i,i<M->ShG (sh i))(Yz:∀i,i+1<M->(sh i).i<=(sh (i+1)).i)(hE:FX M sh 0):0<M/\DsH (sh 0).k (sh 0).n (tX (sh 0).k (sh 0).sizes.sum) (sh 0).sizes.sum M sh:=by
 rcases hE with⟨h,_⟩|⟨h,_⟩|⟨h,_⟩|⟨_,hA,hD,h0,hk⟩
 .cases h
 .cases h
 .cases h
 have hG0:=hG 0 h0;obtain⟨a1,a2,a3,a4⟩:=hG0.k1
 have uw:∀i,i+1<M->(sh i).i<(sh (i+1)).i:=λi hi=>by
  have:=Yz i hi;have:(sh (i+1)).i≠(sh i).i:=λe=>hD ⟨i,hi,e⟩
  omega
 have hix:∀i,i<M->(sh i).i<(sh 0).n:=λi hi=>by have:=(hG i hi).k1.2.2.2;rw[(aev (hA i hi)).2.1]at this;exact this
 have hMn:M<=128:=by have h1:=aew uw (M-1) ae;have h2:=hix (M-1) ae;omega
 refine⟨h0,a1,a2,a3,hk,hMn,rfl,rfl,rfl,hG0.EG,rfl,λi hi=>?_,hix,λi j hi hj hne e=>?_⟩
 .obtain⟨e1,_,_,_,e5⟩:=aev (hA i hi);rw[(hG i hi).qy,e1,e5]
 .rcases aQ i j with h|h
  .have:=apl uw j i h hj;omega
  .have:=apl uw i j ae hi;omega
def ak3(M:Nat)(sh:Nat->xg)(y:Value)(w:World):Prop:=
 (∃e ev p,FX M sh e/\e≠0/\y=.tuple #[.slice none 0 0,ev]/\sG w 1 ev e p)\/
 (FX M sh 0/\(¬∃l,Lj M sh l)/\∃ev p,y=.tuple #[.slice none 0 0,ev]/\sG w 1 ev 13 p)\/
 (FX M sh 0/\∃l gb vb,Lj M sh l/\(∀l',Lj M sh l'->l'=l)/\y=.tuple #[.slice (some ⟨gb,0,none⟩) (sh 0).names.length (sh 0).names.length,.nilIface]/\CB (sh 0).names (sh 0).sizes l gb (sh 0).names.length vb w)
theorem afx{Fin:Machine->Trace->Prop}(wZ:∀m m' ops t,stepT Tryz.prog m=(.next m',ops)->Fin m' (t++ops)->Fin m t){X:Nat->Prop}{Y:Nat->Option Obj}{e:Nat}{gs:Array Goroutine}{W v0:World}{sl:Option (Nat×Nat)}{t:Trace}{qq:Nat->Nat}{fr:Frame}{cs:List Frame}{M cap:Nat}{bo:Option Addr}{sh:Nat->xg}{vN vS vC:Nat->Value}
  (h0:gs[0]?=some (G ((base 19).at ⟨#[.slice bo M cap]++Array.replicate 34 undef,[]⟩ [.code xM]) (fr::cs))) (hB:IE Tryz.prog (vg X) e gs W t qq) (hs:qL X Y W v0)
  (hS:TQ v0 bo M sh vN vS vC) (hM:M<=1048576) (hG:∀i,i<M->ShG (sh i)) (he:e+256<2147483648)
  (qH:∀(e':Nat)(g:Nat->Nat)(y:Value)(X':Nat->Prop)(Nl:Array Goroutine)(W':World)(sl':Option (Nat×Nat))(t':Trace)(q':Nat->Nat)(Y':Nat->Option Obj)(v':World),e'<=e+256->Prm M g->(∀i,i+1<M->(sh (g i)).i<=(sh (g (i+1))).i)->Nl[0]?=some (G (fr.finish y) cs)->
   IE Tryz.prog (vg X') e' Nl W' t' q'->qL X' Y' W' v'->(∀b,X b->X' b)->(∀b,X' b->X b\/W.heap.size<=b)->Sub v0 v'->KpX X W W'->ak3 M (λi=>sh (g i)) y v'->Fin (crowd Nl W' sl') t'):
  Fin (crowd gs W sl) t:=by
 let St:Goroutine->World->Prop:=λgr W=>∃(T:Array Value)(g:Nat->Nat)(bs:Option Addr)(cp:Nat)(v1:World),TA1 (.slice bs M cp) T/\Prm M g/\(∀i,i+1<M->(sh (g i)).i<=(sh (g (i+1))).i)/\TQ v1 bs M (λi=>sh (g i)) (λi=>vN (g i)) (λi=>vS (g i)) (λi=>vC (g i))/\sK v0.heap.size v0 v1/\gr=G ((base 19).at ⟨T,[]⟩ [.code YA]) (fr::cs)/\qL X Y W v1
 have key:=anr (Stop:=St) (Y:=Y) (cs:=fr::cs) (cap:=cap) (Bc X) hS hM (λi hi=>by have:=(hG i hi).k1;omega) (λT g bs cp v1 a1 a2 a3 a4 a5 y hy=>.stop λd=>⟨T,g,bs,cp,v1,a1,a2,a3,a4,a5,rfl,hy.at d⟩);refine late (Fin:=Fin) (Shun:=vg X) (e:=e) wZ (λ_ _ _ h=>h) (λgs1 a1 W1 sl1 t1 q1 h01 uw Iq=>?_) (key W hs) W.drawn gs sl t qq h0 hB;obtain⟨T,g,bs,cp,v1,hT,hP,Yz,Nw,t_,rfl,x9⟩:=uw W1.drawn;replace x9:qL X Y W1 v1:=x9;clear key uw;have JR:=Dv hs x9 t_;have TR:=uo t_;have hG1:∀i,i<M->ShG (sh (g i)):=λi hi=>hG _ (hP.lt i hi)
 obtain⟨err,hE⟩:=FX.some M (λi=>sh (g i));by_cases hz:err=0
 .subst hz;obtain⟨hM0,hH⟩:=anq (sh:=λi=>sh (g i)) hG1 Yz hE
  let St2:Goroutine->World->Prop:=λgr W=>∃T2 v2,TA1 (.slice bs M cp) T2/\sK v1.heap.size v1 v2/\gr=G ((base 38).at ⟨#[.slice bs M cp]++Array.replicate 75 undef,[]⟩ [.code xO]) (ahr T2::fr::cs)/\qL X Y W v2
  have ak4:=apJ (Stop:=St2) (Y:=Y) (cs:=fr::cs) (Bc X) hT Nw hM hE (λT' w' a1 a2 y hy=>.stop λd=>⟨T',w',a1,a2,rfl,hy.at d⟩);refine late (Fin:=Fin) (Shun:=vg X) (e:=e) wZ (λ_ _ _ h=>h) (λgs2 a2 W2 sl2 t2 q2 h02 uw Ae=>?_) (ak4 W1 x9) W1.drawn gs1 sl1 t1 q1 h01 Iq;obtain⟨T2,v2,VT,sZ,rfl,zD⟩:=uw W2.drawn;replace zD:qL X Y W2 v2:=zD;clear ak4 uw;have O3:=Dv x9 zD sZ;have hS2:=Nw.AZ sZ;have hkn:=hH.kn;have ZQ:=hH.n1;refine afy wZ h02 Ae zD hH hS2 ae ?_;intro e3 l vd y X3 gs3 W3 sl3 t3 q3 Y3 v3 he3 hl3 h03 Ny xu hX1 Pm Ll hk3 hLd hDd hR;have ant:Sub v0 v3:=TR.trans ((uo sZ).trans Ll);have wH:=O3.size;have w_:=JR.size;have arE:KpX X W W3:=(JR.trans O3 λx hx=>.inl hx).trans hk3 λx hx=>.inl hx
  have hX3:∀b,X3 b->X b\/W.heap.size<=b:=λb hb=>(Pm b hb).imp id λh=>ae
  have fin:∀(y:Value)(v4:World),sK v3.heap.size v3 v4->ak3 M (λi=>sh (g i)) y v4->∀VU W4 Yn t4 q4,VU[0]?=some (G (fr.finish y) cs)->IE Tryz.prog (vg X3) e3 VU W4 t4 q4->qL X3 Y3 W4 v4->Fin (crowd VU W4 Yn) t4:=λy v4 hb4 hA VU W4 Yn t4 q4 ZR Ib hs4=>
   qH e3 g y X3 VU W4 Yn t4 q4 Y3 v4 ae hP Yz ZR Ib hs4 hX1 hX3 (ant.trans (uo hb4)) (arE.trans (Dv xu hs4 hb4) hX3) hA
  let St4:Goroutine->World->Prop:=λgr W=>∃y v4,sK v3.heap.size v3 v4/\ak3 M (λi=>sh (g i)) y v4/\gr=G (fr.finish y) cs/\qL X3 Y3 W v4
  rcases hR with⟨rfl,apK,hun⟩|⟨ev,p,rfl,Yo,O4⟩
  .have YB:=aex (Stop:=St4) (Y:=Y3) (cs:=fr::cs) (w:=v3) (vd:=vd) (ve:=.nilIface) (Bc X3) VT (λT4 hT4=>IQ.2 (anu (Stop:=St4) (l:=l) (Bc X3) hT4 (hS2.sub Ll) hM0 hLd (by rw[hl3];exact hDd) (hG1 0 hM0).ln hl3.symm (by have:=hH.t1;omega) (λgb vb w' b1 b2 _ z hz=>.stop λd=>⟨_,w',b2,.inr (.inr ⟨hE,l,gb,vb,⟨hl3,apK⟩,λl' h'=>hun l' h'.1 h'.2,rfl,b1⟩),rfl,hz.at d⟩)));exact ax3
  .have YB:=aex (Stop:=St4) (Y:=Y3) (cs:=fr::cs) (w:=v3) (vd:=.slice none 0 0) (ve:=ev) (Bc X3) VT (λT4 hT4=>IQ.2 (anv (Stop:=St4) (Bc X3) hT4 Yo (λev' w' b1 b2 z hz=>.stop λd=>⟨_,w',b2,.inr (.inl ⟨hE,O4,ev',p,rfl,b1⟩),rfl,hz.at d⟩)));exact ax3
 .let St4:Goroutine->World->Prop:=λgr W=>∃y v4,sK v1.heap.size v1 v4/\ak3 M (λi=>sh (g i)) y v4/\gr=G (fr.finish y) cs/\qL X Y W v4
  have YB:=apL (Stop:=St4) (Y:=Y) (cs:=cs) (fr:=fr) (Bc X) hT Nw hM hE hz (λev p w' b1 b2 z hz'=>.stop λd=>⟨_,w',b2,.inl ⟨err,ev,p,hE,hz,rfl,b1⟩,rfl,hz'.at d⟩);refine late (Fin:=Fin) (Shun:=vg X) (e:=e) wZ (λ_ _ _ h=>h) (λVU a4 W4 Yn t4 q4 ZR uw Ib=>?_) (YB W1 x9) W1.drawn gs1 sl1 t1 q1 h01 Iq;obtain⟨y,v4,b1,b2,rfl,b3⟩:=uw W4.drawn;replace b3:qL X Y W4 v4:=b3;exact qH e g y X VU W4 Yn t4 q4 Y v4 ae hP Yz ZR Ib b3 (λ_ h=>h) (λ_ h=>.inl h) (TR.trans (uo b1)) (JR.trans (Dv x9 b3 b1) λx hx=>.inl hx) b2
