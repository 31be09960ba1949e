import Derived.Test.YtlghjjennhpjeaaGreatDoorPlA
set_option maxHeartbeats 4000000
set_option maxRecDepth 100000
namespace Go.Proofs.Y
open Go.Proofs.Tryz
structure St where
 k:Nat
 n:Nat
 i:Nat
 c:Nat
 ns:List (aj)
 zs:aC
 qC:aj
 m:Nat
 ln:Nat
 tt:Nat
 nx:Nat
 pl:Nat
def St.sz(s:St):Nat:=yM s.nx s.c s.m s.ln s.qC.length
def Ad(s:St)(t:aj):Option (Nat×Nat):=
 if t.length<s.sz then some (4,s.pl+t.length)
 else if sumOf (part t 0 (t.length-8))=le (part t (t.length-8) 8) 0 8 then none else some (6,s.pl+(t.length-8))
def AV(t:aj):List (Nat×Nat×Int×Int):=[(6,le t 6 1,1,128),(7,le t 7 1,(le t 6 1:Int),128),(8,le t 8 1,0,(le t 7 1:Int)-1),(9,le t 9 1,0,0),(10,le t 10 4,1,65536),(14,le t 14 4,4,300000),(18,le t 18 4,0,65536),(22,le t 22 2,0,0)]
def MR(s:St)(t:aj):Except (Nat×Nat) St:=
 match EG t vJ with
 |some i=>.error (5,s.pl+i)
 |none=>match Ad s t with
  |some e=>.error e
  |none=>match zI (AV t)with
   |some p=>.error (1,p)
   |none=>.ok {s with k:=le t 6 1,n:=le t 7 1,i:=le t 8 1,c:=le t 10 4,m:=le t 14 4,ln:=le t 18 4}
def WV(s:St)(t:aj):Except (Nat×Nat) St:=
 match Ad s t with
 |some e=>.error e
 |none=>match CJ (part t 0 (t.length-8))with
  | .error p=>.error (7,s.pl+p)
  | .ok (ns,zs)=>if s.ln=rO s.k zs.sum then .ok {s with ns:=ns,zs:=zs,tt:=zs.sum,qC:=[]}else .error (7,18)
def VB(u:aj)(F:Int):Option Nat:=(List.range u.length).find? λm=>decide (F<=(m:Int)/\sV u m≠0)
def F6(s:St)(t:aj):Except (Nat×Nat) St:=
 match Ad s t with
 |some e=>.error e
 |none=>match VB (part t 0 (t.length-8)) (Fv s.k s.i s.tt-(s.qC.length:Int))with
  |some m=>.error (8,s.pl+m)
  |none=>.ok {s with qC:=s.qC++part t 0 (t.length-8)}
def MV(s:St)(t:aj):Except (Nat×Nat) St:=
 match EG t xm with
 |some i=>.error (5,s.pl+i)
 |none=>if t.length<s.sz then .error (4,s.pl+t.length)else .ok s
def y_(s:St)(t:aj):Except (Nat×Nat) St:=
 if s.nx=0 then MR s t else if s.nx=1 then WV s t else if s.nx=2 then F6 s t else MV s t
def zf(s:St):Nat:=if s.nx=0 then 1 else if s.nx=3 then 4 else if s.qC.length<s.ln then 2 else 3
def tq(s:St)(t:aj):St:={s with pl:=s.pl+t.length,nx:=zf s}
structure Head(s:St)(Z:aj):Prop where
 ok:Bc Z=none
 k:s.k=le Z 6 1
 n:s.n=le Z 7 1
 i:s.i=le Z 8 1
 c:s.c=le Z 10 4
 m:s.m=le Z 14 4
 ln:s.ln=le Z 18 4
structure Man(s:St)(Z:aj):Prop where
 head:Head s Z
 names:vX Z s.m=.ok (s.ns,s.zs)
 long:s.ln=uu s.k s.zs
 tt:s.tt=s.zs.sum
 small:s.zs.sum<=65536
def SQ(s:St)(Z:aj)(f a:Nat)(qC:aj):Except (Nat×Nat) (aj×Nat):=
 tu Z (decide (s.i<s.k)) s.c s.ln ((rZ s.zs:Int)-((s.i*uu s.k s.zs:Nat):Int)) f a qC
inductive Good (s:St) (Z:aj):Prop
 |head (h0:s.nx=0) (h1:s.pl=0) (h2:s.qC=[])
 |man (h0:s.nx=1) (h1:s.pl=32) (h2:s.qC=[]) (hh:Head s Z)
 |frame (h0:s.nx=2) (hm:Man s Z) (h1:s.qC.length<s.ln) (f:Nat) (hf:s.ln<=f+s.qC.length) (he:SQ s Z s.ln (32+s.m+8) []=SQ s Z f s.pl s.qC)
 |tail (h0:s.nx=3) (hm:Man s Z) (h1:s.ln=s.qC.length) (he:SQ s Z s.ln (32+s.m+8) []=.ok (s.qC,s.pl))
 |done (h0:s.nx=4) (hm:Man s Z) (h1:s.ln=s.qC.length) (a:Nat) (ha:s.pl=a+4) (he:SQ s Z s.ln (32+s.m+8) []=.ok (s.qC,a)) (hx:uS Z a xm=none)
theorem WX{Z:aj}{e:Nat×Nat}(h:Bc Z=some e):qN Z=.error e:=by unfold qN;rw[h]
theorem J6{s:St}{Z:aj}{e:Nat×Nat}(h:Head s Z)(hn:vX Z s.m=.error e):qN Z=.error e:=by unfold qN;rw[h.ok];simp only;rw[<-h.m,hn]
theorem WY{s:St}{Z:aj}{ns:List (aj)}{zs:aC}(h:Head s Z)(hn:vX Z s.m=.ok (ns,zs))(hl:¬s.ln=uu s.k zs):qN Z=.error (7,18):=by unfold qN;rw[h.ok];simp only;rw[<-h.m,hn];simp only;rw[<-h.ln,<-h.k,au hl]
theorem I7{s:St}{Z:aj}{e:Nat×Nat}(h:Man s Z)(hf:SQ s Z s.ln (32+s.m+8) []=.error e):qN Z=.error e:=by have hh:=h.head;unfold qN;rw[hh.ok];simp only;rw[<-hh.m,h.names];simp only;rw[<-hh.ln,<-hh.k,ax h.long];unfold SQ at hf;rw[<-hh.i,<-hh.c,hf]
theorem F7{s:St}{Z:aj}{e:Nat×Nat}{qC:aj}{a:Nat}(h:Man s Z)(hf:SQ s Z s.ln (32+s.m+8) []=.ok (qC,a))(ht:ug (uS Z a xm) (qJ (decide (Z.length<=a+4)) 9 (a+4))=some e):qN Z=.error e:=by have hh:=h.head;unfold qN;rw[hh.ok];simp only;rw[<-hh.m,h.names];simp only;rw[<-hh.ln,<-hh.k,ax h.long];unfold SQ at hf;rw[<-hh.i,<-hh.c,hf];simp only;rw[ht]
theorem ZR{s:St}{Z:aj}{qC:aj}{a:Nat}(h:Man s Z)(hf:SQ s Z s.ln (32+s.m+8) []=.ok (qC,a))(ht:ug (uS Z a xm) (qJ (decide (Z.length<=a+4)) 9 (a+4))=none):qN Z=.ok ⟨s.k,s.n,s.i,s.c,s.ns,s.zs,qC⟩:=by have hh:=h.head;unfold qN;rw[hh.ok];simp only;rw[<-hh.m,h.names];simp only;rw[<-hh.ln,<-hh.k,ax h.long];unfold SQ at hf;rw[<-hh.i,<-hh.c,hf];simp only;rw[ht,<-hh.n]
theorem QA{s:St}{Z t:aj}{q:Nat}(hA:At Z s.pl t)(hz:s.sz=q+8)(ht:t.length<=s.sz){r:Option (Nat×Nat)}(h:Ad s t=r)(h4:∀p,r=some (4,p)->Z.length=s.pl+t.length):sS Z s.pl q=r/\(r=none->t.length=q+8):=by
 unfold Ad at h;by_cases q0:t.length<s.sz
 .rw[ax q0]at h;have:=h4 _ h.symm;refine⟨?_,λe=>by rw[e]at h;cases h⟩;rw[ad1 ag,<-h,this]
 .rw[au q0]at h;have hl:t.length=q+8:=ag;refine⟨?_,λ_=>hl⟩;rw[hA.seal hl,<-h,hl,iK]
theorem sz0{s:St}(h:s.nx=0):s.sz=24+8:=by unfold St.sz yM;rw[ax h]
theorem sz1{s:St}(h:s.nx=1):s.sz=s.m+8:=by unfold St.sz yM;rw[au ag,ax h]
theorem sz2{s:St}(h:s.nx=2):s.sz=min s.c (s.ln-s.qC.length)+8:=by unfold St.sz yM;rw[au ag,au ag,ax h]
theorem sz3{s:St}(h:s.nx=3):s.sz=4:=by unfold St.sz yM;rw[au ag,au ag,au ag]
theorem ahc{t:aj}{Z:aj}{a n:Nat}{ws:aj}(hA:At Z a t)(hb:EG t ws=none)(hs:sS Z a n=some (4,Z.length))(hz:Z.length=a+t.length):ug (uS Z a ws) (sS Z a n)=some (4,Z.length):=by
 by_cases q:t.length<ws.length
 .rw[hA.Yd hb q hz];rfl
 .rw[hA.Pq hb ag];exact hs
theorem aj9{s:St}{Z t:aj}(h0:s.nx=0)(h1:s.pl=0)(h2:s.qC=[])(hA:At Z s.pl t)(ht:t.length<=s.sz):
  (∀e,MR s t=.error e->(e.1=4->Z.length=s.pl+t.length)->Bc Z=some e)/\(∀s',MR s t=.ok s'->t.length=32/\Head s' Z/\s'.qC=[]/\s'.nx=0/\s'.pl=0):=by
 have hz:=sz0 h0;unfold MR;cases hb:EG t vJ with
 |some i=>
  refine⟨λe he _=>?_,λs' he=>j_⟩;cases he;unfold Bc;rw[h1]at hA;rw[hA.ab4 hb,h1];rfl
 |none=>
  simp only;cases hs:Ad s t with
  |some x=>
   refine⟨λe he h4=>?_,λs' he=>j_⟩;cases he;obtain⟨h5,_⟩:=QA hA hz ht hs (λp hp=>avR);rw[h1]at hA h5;unfold Bc;by_cases q:t.length<32
   .have hx:x=(4,s.pl+t.length):=by unfold Ad at hs;rw[ax ag]at hs;cases hs;rfl
    have hZ:=h4 (by rw[hx]);rw[h1,bJ]at hZ;rw[ahc hA hb (by rw[h5,hx,hZ,h1,bJ]) ag];rw[hx,hZ,h1,bJ]
   .rw[hA.Pq hb (by simp[vJ];omega)];simp only[ug];rw[h5]
  |none=>
   obtain⟨h5,h6⟩:=QA hA hz ht hs (λp hp=>by cases hp);have hl:=h6 rfl;rw[h1]at hA h5;have hN:∀j n,j+n<=32->le Z j n=le t j n:=λj n hj=>by have:=hA.num n j ag;rw[bJ]at this;exact this
   have hH:Bc Z=(zI (AV t)).map (λx=>(1,x)):=by unfold Bc;rw[hA.Pq hb (by simp[vJ];omega)];simp only[ug];rw[h5];simp only;rw[ad3,hN 6 1 ag,hN 7 1 ag,hN 8 1 ag,hN 9 1 ag,hN 10 4 ag,hN 14 4 ag,hN 18 4 ag,hN 22 2 ag];rfl
   simp only;cases hn:zI (AV t)with
   |some p=>
    refine⟨λe he _=>?_,λs' he=>j_⟩;cases he;rw[hH,hn];rfl
   |none=>
    refine⟨λe he=>j_,λs' he=>?_⟩;cases he;exact⟨hl,⟨by rw[hH,hn];rfl,(hN 6 1 ag).symm,(hN 7 1 ag).symm,(hN 8 1 ag).symm,(hN 10 4 ag).symm,(hN 14 4 ag).symm,(hN 18 4 ag).symm⟩,h2,h0,h1⟩
theorem zq{k:Nat}{zs:aC}(h:zs.sum<=65536):uu k zs=rO k zs.sum:=by unfold uu rO rZ;rw[ax h]
theorem KD(u:aj):∀(c a:Nat)(ns:List (aj))(zs:aC){ns':List (aj)}{zs':aC},zs.sum<=65536->BU u c a ns zs=.ok (ns',zs')->zs'.sum<=65536
 |0,a,ns,zs,ns',zs',hz,h=>by
  unfold BU at h;split at h
  .cases h
  .cases h;exact hz
 |c+1,a,ns,zs,ns',zs',hz,h=>by
  unfold BU at h;cases hb:yh u a ns zs with
  |error p=>rw[hb]at h;cases h
  |ok x=>
   obtain⟨nm,z⟩:=x;rw[hb]at h;refine KD u c _ _ _ ?_ h;unfold yh at hb;split at hb
   .cases hb
   .split at hb
    .cases hb
    .split at hb
     .cases hb
     .cases hb;simp;omega
theorem anB{s:St}{Z t:aj}(h0:s.nx=1)(h1:s.pl=32)(hh:Head s Z)(hA:At Z s.pl t)(ht:t.length<=s.sz):
  (∀e,WV s t=.error e->(e.1=4->Z.length=s.pl+t.length)->qN Z=.error e)/\(∀s',WV s t=.ok s'->t.length=s.m+8/\Man s' Z/\s'.qC=[]/\s'.nx=1/\s'.pl=32/\s'.m=s.m):=by
 have hz:=sz1 h0;have hr:=hh.ok
 have hb:4<=s.m:=by
  have h2:=hh.ok;unfold Bc at h2;split at h2
  .cases h2
  .have:=GZ h2;rw[hh.m];omega
 unfold WV;cases hs:Ad s t with
 |some x=>
  refine⟨λe he h4=>?_,λs' he=>j_⟩;cases he;obtain⟨h5,_⟩:=QA hA hz ht hs (λp hp=>avR);rw[h1]at h5;exact J6 hh (by unfold vX;rw[h5])
 |none=>
  obtain⟨h5,h6⟩:=QA hA hz ht hs (λp hp=>by cases hp);have hl:=h6 rfl;have N9:=hA;rw[h1]at hA h5;simp only;rw[hl,iK];have hU:At Z 32 (part t 0 s.m):=by have:=hA.trans (At.YJ t (j:=0) (n:=s.m) ag);exact this
  have hUl:(part t 0 s.m).length=s.m:=qF ag
  have VQ:vX Z s.m=upE 32 (CJ (part t 0 s.m)):=by
   unfold vX CJ;rw[h5];simp only;have e4:le Z 32 4=le (part t 0 s.m) 0 4:=hU.num 4 0 ag;rw[e4];by_cases q:1000<le (part t 0 s.m) 0 4
   .rw[ax q,ax q];rfl
   .rw[au q,au q];exact Nl hU hUl _ 4 [] [] ag aA
  cases hL:CJ (part t 0 s.m)with
  |error p=>
   refine⟨λe he _=>?_,λs' he=>j_⟩;cases he;refine J6 hh ?_;rw[VQ,hL,h1];rfl
  |ok x=>
   obtain⟨ns,zs⟩:=x;simp only
   have hsm:zs.sum<=65536:=by
    unfold CJ at hL;split at hL
    .cases hL
    .exact KD _ _ _ _ _ aA hL
   have ami:vX Z s.m=.ok (ns,zs):=by rw[VQ,hL];rfl
   by_cases q:s.ln=rO s.k zs.sum
   .rw[ax q];refine⟨λe he=>j_,λs' he=>?_⟩;cases he;exact⟨trivial,⟨⟨hh.ok,hh.k,hh.n,hh.i,hh.c,hh.m,hh.ln⟩,ami,by rw[zq hsm];exact q,rfl,hsm⟩,rfl,h0,h1,rfl⟩
   .rw[au q];refine⟨λe he _=>?_,λs' he=>j_⟩;cases he;exact WY hh ami (by rw[zq hsm];exact q)
theorem MW{u:aj}{F:Int}{m:Nat}:VB u F=some m↔m<u.length/\(F<=(m:Int)/\sV u m≠0)/\∀j,j<m->F<=(j:Int)->sV u j=0:=by
 unfold VB;rw[pq];constructor
 .rintro⟨h1,h2,h3⟩;refine⟨jE,iD,λj hj hF=>?_⟩;have:=h3 j hj;simp only[auZ,auD,not_and,pJ]at this;exact this hF
 .rintro⟨h1,h2,h3⟩;refine⟨jE,iD,λj hj=>?_⟩;simp only[auZ,auD,not_and,pJ];exact h3 j hj
theorem MX{u:aj}{F:Int}:VB u F=none↔∀m,m<u.length->F<=(m:Int)->sV u m=0:=by
 unfold VB;rw[pz];constructor
 .intro h m hm hF;have:=h m (by simpa using hm);simp only[iG,not_and,pJ]at this;exact this hF
 .intro h m hm;simp only[iG,not_and,pJ];exact h m (by simpa using hm)
theorem Yg{en:Int}:∀{p:aj}{a m:Nat},(∀j,j<p.length->en<=((m+j:Nat):Int)->sV p j=0)->Dj en a m p=none
 |[],_,_,_=>rfl
 |b::p,a,m,h=>by
  have h0:(m:Int)<en\/b.toNat=0:=by
   rcases nK (m:Int) en with x|x
   .exact .inl x
   .exact .inr (h 0 aA x)
  unfold Dj;rw[ax h0];refine Yg (λj hj hx=>?_);have:=h (j+1) iC ag;rwa[Ji]at this
theorem Yh{en:Int}:∀{p:aj}{a m:Nat}(i:Nat),i<p.length->en<=((m+i:Nat):Int)->sV p i≠0->(∀j,j<i->en<=((m+j:Nat):Int)->sV p j=0)->Dj en a m p=some (8,a+i)
 |[],_,_,_,h,_,_,_=>by simp at h
 |b::p,a,m,0,_,h2,h3,_=>by
  unfold Dj
  have:¬((m:Int)<en\/b.toNat=0):=by
   rintro(x|x)
   .omega
   .exact h3 x
  rw[au this];rfl
 |b::p,a,m,i+1,h1,h2,h3,h4=>by
  have h0:(m:Int)<en\/b.toNat=0:=by
   rcases nK (m:Int) en with x|x
   .exact .inl x
   .exact .inr (h4 0 ag x)
  unfold Dj;rw[ax h0];rw[Yh (p:=p) (a:=a+1) (m:=m+1) i iD ag (by rwa[Ji]at h3) (λj hj hx=>?_),show a+1+i=a+(i+1)by omega];have:=h4 (j+1) ag ag;rwa[Ji]at this
theorem aq2{k i tt cl a:Nat}{u:aj}(hu:cl+u.length<=rO k tt):(if decide (i<k)then Dj ((tt:Int)-((i*rO k tt:Nat):Int)) a cl u else none)=(VB u (Fv k i tt-(cl:Int))).map (λm=>(8,a+m)):=by
 by_cases Jd:i<k
 .rw[gV Jd,ax rfl];have hU:Fv k i tt=max 0 (min (rO k tt:Int) ((tt:Int)-((i*rO k tt:Nat):Int))):=by unfold Fv;rw[au ag]
  rw[hU];generalize((tt:Int)-((i*rO k tt:Nat):Int))=en;generalize rO k tt=L at*;cases hp:VB u (max 0 (min (L:Int) en)-(cl:Int))with
  |none=>
   rw[MX]at hp;rw[Yg (λj hj hx=>hp j hj ag)];rfl
  |some m=>
   rw[MW]at hp;obtain⟨h1,⟨h2,h3⟩,h4⟩:=hp;rw[Yh m h1 ag h3 (λj hj hx=>h4 j hj ag)];rfl
 .rw[dY Jd,au aA];have hU:Fv k i tt=(rO k tt:Int):=by unfold Fv;rw[ax ag]
  rw[hU]
  have:VB u ((rO k tt:Int)-(cl:Int))=none:=by rw[MX];intro m hm hF;omega
  rw[this];rfl
theorem afk{s:St}{Z t:aj}(h0:s.nx=2)(hm:Man s Z)(h1:s.qC.length<s.ln)(hc:1<=s.c)(f:Nat)(hf:s.ln<=f+s.qC.length)(he:SQ s Z s.ln (32+s.m+8) []=SQ s Z f s.pl s.qC)(hA:At Z s.pl t)(ht:t.length<=s.sz):
  (∀e,F6 s t=.error e->(e.1=4->Z.length=s.pl+t.length)->qN Z=.error e)/\
  (∀s',F6 s t=.ok s'->t.length=s.sz/\Man s' Z/\s'.nx=2/\s'.pl=s.pl/\s'.ln=s.ln/\s'.qC.length<=s'.ln/\∃f',s.ln<=f'+s'.qC.length/\SQ s' Z s'.ln (32+s'.m+8) []=SQ s' Z f' (s.pl+t.length) s'.qC):=by
 have hz:=sz2 h0;obtain⟨f,rfl⟩:∃g,f=g+1:=⟨f-1,ag⟩
 have qU:SQ s Z (f+1) s.pl s.qC=match sS Z s.pl (min (s.ln-s.qC.length) s.c)with
   |some e=>.error e
   |none=>match(if decide (s.i<s.k)then Dj ((rZ s.zs:Int)-((s.i*uu s.k s.zs:Nat):Int)) s.pl s.qC.length (part Z s.pl (min (s.ln-s.qC.length) s.c))else none)with
    |some e=>.error e
    |none=>SQ s Z f (s.pl+min (s.ln-s.qC.length) s.c+8) (s.qC++part Z s.pl (min (s.ln-s.qC.length) s.c)):=by
  unfold SQ;rw[tu,au ag]
  all_goals rfl
 have hts:rZ s.zs=s.tt:=by unfold rZ;rw[ax hm.small,hm.tt]
 have hlS:uu s.k s.zs=rO s.k s.tt:=by rw[zq hm.small,hm.tt]
 rw[Nat.min_comm]at hz;obtain⟨q,eq⟩:∃q,min (s.ln-s.qC.length) s.c=q:=⟨_,rfl⟩;rw[eq]at hz qU;have hq1:1<=q:=ag;have Yy:s.qC.length+q<=s.ln:=ag;unfold F6;cases hs:Ad s t with
 |some x=>
  refine⟨λe hx h4=>?_,λs' hx=>jZ⟩;cases hx;obtain⟨h5,_⟩:=QA hA hz ht hs (λp hp=>avR);refine I7 hm ?_;rw[he,qU,h5]
 |none=>
  obtain⟨h5,h6⟩:=QA hA hz ht hs (λp hp=>by cases hp);have hl:=h6 rfl;have hP:part Z s.pl q=part t 0 q:=hA.cut (j:=0) ag;have hPl:(part t 0 q).length=q:=qF ag;rw[h5,hts,hlS,hP]at qU;simp only at qU;rw[aq2 (u:=part t 0 q) (by rw[hPl,<-hlS,<-hm.long];omega)]at qU;simp only;rw[hl,iK];cases hp:VB (part t 0 q) (Fv s.k s.i s.tt-(s.qC.length:Int))with
  |some m=>
   refine⟨λe hx _=>?_,λs' hx=>jZ⟩;cases hx;refine I7 hm ?_;rw[he,qU,hp];rfl
  |none=>
   refine⟨λe hx=>jZ,λs' hx=>?_⟩;cases hx;refine⟨ag,⟨⟨hm.head.ok,hm.head.k,hm.head.n,hm.head.i,hm.head.c,hm.head.m,hm.head.ln⟩,hm.names,hm.long,hm.tt,hm.small⟩,h0,rfl,rfl,?_,f,?_,?_⟩
   .simp only[bM];rw[hPl];exact Yy
   .simp only[bM];rw[hPl];omega
   .rw[hp]at qU;have:SQ s Z s.ln (32+s.m+8) []=SQ s Z f (s.pl+q+8) (s.qC++part t 0 q):=by rw[he,qU];rfl
    unfold SQ at this⊢;rw[<-dO];exact this
theorem aj_{s:St}{Z t:aj}(h0:s.nx=3)(hm:Man s Z)(he:SQ s Z s.ln (32+s.m+8) []=.ok (s.qC,s.pl))(hA:At Z s.pl t)(ht:t.length<=s.sz):
  (∀e,MV s t=.error e->(e.1=4->Z.length=s.pl+t.length)->qN Z=.error e)/\(∀s',MV s t=.ok s'->t.length=4/\s'=s/\uS Z s.pl xm=none):=by
 have hz:=sz3 h0;unfold MV;cases hb:EG t xm with
 |some i=>
  refine⟨λe hx _=>?_,λs' hx=>jZ⟩;cases hx;refine F7 hm he ?_;rw[hA.ab4 hb];rfl
 |none=>
  simp only;by_cases q:t.length<s.sz
  .rw[ax q];refine⟨λe hx h4=>?_,λs' hx=>jZ⟩;cases hx;have hZ:=h4 rfl;refine F7 hm he ?_;rw[hA.Yd hb (by simp[xm];omega) hZ,hZ];rfl
  .rw[au q];refine⟨λe hx=>jZ,λs' hx=>?_⟩;cases hx;exact⟨ag,rfl,hA.Pq hb (by simp[xm];omega)⟩
theorem Head.facts{s:St}{Z:aj}(hh:Head s Z):1<=s.k/\s.k<=128/\s.k<=s.n/\s.n<=128/\s.i<s.n/\1<=s.c/\s.c<=65536/\4<=s.m/\s.m<=300000/\s.ln<=65536:=by
 have h2:=hh.ok;unfold Bc at h2;split at h2
 .cases h2
 .have:=GZ h2;rw[hh.k,hh.n,hh.i,hh.c,hh.m,hh.ln];omega
theorem abo{s:St}{Z t:aj}(hG:Good s Z)(h4:s.nx≠4)(hA:At Z s.pl t)(ht:t.length<=s.sz){e:Nat×Nat}(h:y_ s t=.error e)(hs:e.1=4->Z.length=s.pl+t.length):qN Z=.error e:=by
 unfold y_ at h;cases hG with
 |head h0 h1 h2=>rw[ax h0]at h;exact WX ((aj9 h0 h1 h2 hA ht).1 e h hs)
 |man h0 h1 h2 hh=>rw[au ag,ax h0]at h;exact(anB h0 h1 hh hA ht).1 e h hs
 |frame h0 hm h1 f hf he=>rw[au ag,au ag,ax h0]at h;exact(afk h0 hm h1 hm.head.facts.2.2.2.2.2.1 f hf he hA ht).1 e h hs
 |tail h0 hm h1 he=>rw[au ag,au ag,au ag]at h;exact(aj_ h0 hm he hA ht).1 e h hs
 |done h0=>exact absurd h0 h4
theorem amu{s s':St}{Z t:aj}(hG:Good s Z)(h4:s.nx≠4)(hA:At Z s.pl t)(ht:t.length<=s.sz)(h:y_ s t=.ok s'):t.length=s.sz/\Good (tq s' t) Z/\s'.pl=s.pl/\s'.nx=s.nx:=by
 unfold y_ at h;cases hG with
 |head h0 h1 h2=>
  rw[ax h0]at h;obtain⟨a1,a2,a3,a4,a5⟩:=(aj9 h0 h1 h2 hA ht).2 s' h;refine⟨by rw[sz0 h0];omega,?_,ag,ag⟩;refine .man ?_ ?_ a3 ⟨a2.ok,a2.k,a2.n,a2.i,a2.c,a2.m,a2.ln⟩
  .simp only[tq,zf];rw[ax a4]
  .simp only[tq];omega
 |man h0 h1 h2 hh=>
  rw[au ag,ax h0]at h;obtain⟨a1,a2,a3,a4,a5,a6⟩:=(anB h0 h1 hh hA ht).2 s' h;refine⟨by rw[sz1 h0];omega,?_,ag,ag⟩;have hM:Man (tq s' t) Z:=⟨⟨a2.head.ok,a2.head.k,a2.head.n,a2.head.i,a2.head.c,a2.head.m,a2.head.ln⟩,a2.names,a2.long,a2.tt,a2.small⟩;have uD:(tq s' t).pl=32+(tq s' t).m+8:=by simp only[tq];omega
  have yf:(tq s' t).qC=[]:=a3;have Je:(tq s' t).ln=s'.ln:=rfl;by_cases q:0<s'.ln
  .refine .frame ?_ hM (by rw[yf,Je];simpa using q) s'.ln (by rw[Je];omega) (by rw[uD,yf,Je]);simp only[tq,zf];rw[au ag,au ag,ax (by rw[a3];simpa using q)]
  .refine .tail ?_ hM (by rw[yf,Je];simp;omega) ?_
   .simp only[tq,zf];rw[au ag,au ag,au (by rw[a3];simpa using q)]
   .rw[uD,yf,Je,show s'.ln=0 by omega];unfold SQ;rw[tu]
 |frame h0 hm h1 f hf he=>
  rw[au ag,au ag,ax h0]at h;obtain⟨a1,a2,a3,a4,a5,a6,f',a7,a8⟩:=(afk h0 hm h1 hm.head.facts.2.2.2.2.2.1 f hf he hA ht).2 s' h;refine⟨a1,?_,a4,ag⟩;have hM:Man (tq s' t) Z:=⟨⟨a2.head.ok,a2.head.k,a2.head.n,a2.head.i,a2.head.c,a2.head.m,a2.head.ln⟩,a2.names,a2.long,a2.tt,a2.small⟩
  have h9:SQ (tq s' t) Z (tq s' t).ln (32+(tq s' t).m+8) []=SQ (tq s' t) Z f' (tq s' t).pl (tq s' t).qC:=by
   have e9:(tq s' t).pl=s.pl+t.length:=by simp only[tq];omega
   rw[e9];exact a8
  by_cases q:s'.qC.length<s'.ln
  .refine .frame ?_ hM q f' (by show s'.ln<=f'+s'.qC.length;omega) h9;simp only[tq,zf];rw[au ag,au ag,ax q]
  .refine .tail ?_ hM (by show s'.ln=s'.qC.length;omega) ?_
   .simp only[tq,zf];rw[au ag,au ag,au q]
   .rw[h9];unfold SQ;cases f' with
    |zero=>rw[tu]
    |succ f'=>rw[tu,ax (by show s'.ln<=s'.qC.length;omega)]
 |tail h0 hm h1 he=>
  rw[au ag,au ag,au ag]at h;obtain⟨a1,rfl,a3⟩:=(aj_ h0 hm he hA ht).2 s' h;refine⟨by rw[sz3 h0];omega,?_,rfl,rfl⟩;refine .done ?_ ⟨⟨hm.head.ok,hm.head.k,hm.head.n,hm.head.i,hm.head.c,hm.head.m,hm.head.ln⟩,hm.names,hm.long,hm.tt,hm.small⟩ h1 s'.pl ?_ he a3
  .simp only[tq,zf];rw[au ag,ax h0]
  .simp only[tq];omega
 |done h0=>exact absurd h0 h4
def St.shd(s:St):vZ:=⟨s.k,s.n,s.i,s.c,s.ns,s.zs,s.qC⟩
theorem ajl{s:St}{Z:aj}(hG:Good s Z)(h4:s.nx=4):qN Z=if Z.length<=s.pl then .ok s.shd else .error (9,s.pl):=by
 cases hG with
 |done h0 hm h1 a ha he hx=>
  by_cases q:Z.length<=s.pl
  .rw[ax q,<-show qN Z=.ok s.shd from ZR hm he (by rw[hx];simp only[ug,qJ];rw[ax aJ])]
  .rw[au q,ha];exact F7 hm he (by rw[hx];simp only[ug,qJ];rw[au aJ])
 |head h0=>omega
 |man h0=>omega
 |frame h0=>omega
 |tail h0=>omega
theorem Good.bounds{s:St}{Z:aj}(hG:Good s Z):s.nx<=4/\(s.nx=0\/1<=s.k/\s.k<=128/\s.k<=s.n/\s.n<=128/\s.i<s.n/\1<=s.c/\s.c<=65536/\4<=s.m/\s.m<=300000/\s.ln<=65536)/\(s.nx<=1->s.qC=[])/\(s.nx=2->s.qC.length<s.ln)/\(2<=s.nx->s.tt<=65536/\s.qC.length<=s.ln):=by
 cases hG with
 |head h0 h1 h2=>exact⟨ag,.inl h0,λ_=>h2,ag,ag⟩
 |man h0 h1 h2 hh=>exact⟨ag,.inr hh.facts,λ_=>h2,ag,ag⟩
 |frame h0 hm h1 f hf he=>exact⟨ag,.inr hm.head.facts,ag,λ_=>h1,λ_=>⟨avu,ag⟩⟩
 |tail h0 hm h1 he=>exact⟨ag,.inr hm.head.facts,ag,ag,λ_=>⟨avu,ag⟩⟩
 |done h0 hm h1=>exact⟨ag,.inr hm.head.facts,ag,ag,λ_=>⟨avu,ag⟩⟩
end Go.Proofs.Y
namespace Go.Proofs.Y
open Go.Proofs.Tryz
open Go.RowKit Go.Deep
def St.rd(s:St)(vN vS vC vT vF:ai):Rd:=⟨s.k,s.n,s.i,s.c,vN,vS,vC,s.m,s.ln,s.tt,s.nx,s.pl,vT,vF⟩
structure RI(B:Nat)(w:ah)(rb:Nat)(s:St)(t:aj)(vN vS vC vT:ai):Prop where
 rd:xU w rb (s.rd vN vS vC vT .nilIface)
 on:w.ownsRow B 9 1 vN s.ns.length (zC s.ns)
 os:w.ownsRow B 3 1 vS s.zs.length (uH s.zs)
 oc:BK B w vC s.qC
 ot:BK B w vT t
 ap:NR vC vT
 size:B<=w.heap.size
def qQ(rb:Nat)(vC vT:ai)(k:Nat):Prop:=k=rb\/vC.ownBlock=some k\/vT.ownBlock=some k
structure Bd(s:St):Prop where
 m:s.m<=300000
 c:s.c<=65536
 ln:s.ln<=65536
 qC:s.qC.length<=s.ln
 nx:s.nx<=4
 pl:s.pl<=1000000
theorem BK.lies{B:Nat}{w:ah}{v:ai}{l:aj}(h:BK B w v l):qP w v (rP l):=by
 have h2:=h;unfold BK at h;rcases h.2 with⟨e,h0⟩|⟨g,c,cur,e,hg,hh,hc,_⟩
 .subst e;have:l=[]:=kW.1 h0;subst this;exact⟨none,0,rfl,fV,λj u hj=>nV⟩
 .refine⟨some ⟨g,0,none⟩,c,by rw[e,ru],by rw[ru];exact hc,λj u hj=>⟨g,0,rfl,?_⟩⟩;obtain⟨hj1,rfl⟩:=JE hj;rw[e]at h2;have:=World.ownsRow.cellAt h2 j ag;rw[bJ,this];exact wF hj1
theorem BK.slice{B:Nat}{w:ah}{v:ai}{l:aj}(h:BK B w v l):∃ba cap,v=.slice ba l.length cap/\l.length<=cap:=by obtain⟨ba,cap,e,hc,_⟩:=h.lies;rw[ru]at e hc;exact⟨ba,cap,e,hc⟩
theorem VC(a:aW)(len cap:Nat)(N:Int)(n:Nat)(hN:N=n)(hn:n<=cap):∀w,(Instr.slice 24 (.slice a len cap) none (some (.int .i64 N)) none).run prog w=.ok (.slice a n cap) w:=by
 intro w;subst hN;have hu:prog.underlying 24=some (.slice (prog.elem 24)):=underlying24;rw[run_slice_h w 24 _ _ _ hu .i64 n ag ag]
 have hsz:(sizeOf (prog.elem 24)).run prog w=.ok 1 w:=by simp[sizeOf,go_sem];rfl
 rw[hsz];simp only[Result.andThen,sliced,jR,ja];cases a with
 |none=>simp
 |some ad=>simp[Addr.add]
theorem ab7(a:aW)(len cap:Nat)(N:Int)(n:Nat)(hN:N=n)(hn:n<=len):∀w,(Instr.slice 24 (.slice a len cap) (some (.int .i64 N)) none none).run prog w=.ok (.slice (if cap=n then a else a.map (·.add n)) (len-n) (cap-n)) w:=by
 subst hN;have hu:prog.underlying 24=some (.slice (prog.elem 24)):=underlying24
 have hsz:∀w,(sizeOf (prog.elem 24)).run prog w=.ok 1 w:=λw=>by simp[sizeOf,go_sem];rfl
 intro w;rw[run_slice_l w 24 _ _ _ hu .i64 n ag ag,hsz];simp only[Result.andThen,jR,sliced,ja]
def Pt(w:ah)(M:Nat->Prop)(v:ai)(p:aj):Prop:=
 (v=.slice none 0 0/\p=[])\/∃ad cap,v=.slice (some ad) p.length cap/\p.length<=cap/\(0<p.length->¬M ad.block)/\∀j,j<p.length->w.cell? (ad.add j)=some (.int .u8 (sV p j:Int))
theorem add_block(ad:Addr)(j:Nat):(ad.add j).block=ad.block:=by unfold Addr.add;split<;>rfl
theorem add_add(ad:Addr)(i j:Nat):(ad.add i).add j=ad.add (i+j):=by
 unfold Addr.add;by_cases h1:i=0
 .simp[h1]
 .by_cases h2:j=0
  .simp[h2]
  .have:¬i+j=0:=ag;simp only[h1,h2,this,bU,dO]
theorem Pt.cut{w:ah}{M:Nat->Prop}{ad:Addr}{cap n:Nat}{p:aj}(h1:p.length<=cap)(h2:0<p.length->¬M ad.block)(h3:∀j,j<p.length->w.cell? (ad.add j)=some (.int .u8 (sV p j:Int)))(hn:n<=p.length):Pt w M (.slice (if cap=n then some ad else(some ad).map (·.add n)) (p.length-n) (cap-n)) (p.drop n):=by
 right
 have hl:(p.drop n).length=p.length-n:=aA;by_cases q:cap=n
 .rw[ax q];exact⟨ad,_,nZ,nY,λh=>h2 ag,λj hj=>by rw[hl]at hj;omega⟩
 .rw[au q];refine⟨ad.add n,_,by rw[hl];rfl,nY,λh=>by rw[add_block];exact h2 ag,λj hj=>?_⟩;rw[hl]at hj;rw[add_add,h3 (n+j) ag];simp[sV]
theorem Pt.later{w w':ah}{M M' S:Nat->Prop}{v:ai}{p:aj}(h:Pt w M v p)(hb:qG w.heap.size S w w')(hS:∀k,S k->M k)(hM:∀k,k<w.heap.size->M' k->M k):Pt w' M' v p:=by
 rcases h with h|⟨ad,cap,rfl,h1,h2,h3⟩
 .exact .inl h
 .right
  refine⟨ad,cap,rfl,h1,λh=>?_,λj hj=>?_⟩
  .have qB:(ad.add 0).block<w.heap.size:=rY (h3 0 h);rw[add_block]at qB;exact λx=>h2 h (hM _ qB x)
  .have qB:(ad.add j).block<w.heap.size:=rY (h3 j hj);have hnS:¬S (ad.add j).block:=λx=>h2 ag (by rw[add_block]at x;exact hS _ x)
   rw[hb.cell qB hnS];exact h3 j hj
theorem AB{P:aP}{ops:Array Oper}{o:Oper}{a:Act}{w:ah}{K:Act->ah->Prop}{Q:Exit->Act->ah->Prop}{E:Prop}
  (hg:o.guard=none) (s x:Operand) (t:aG) (uZ:o.op=Op.call {callee:=Callee.builtin Builtin.append,args:=#[s,x],argTypes:=#[t,t]})
  (base:Nat) (e:aG) (i:TypeInfo) (z:ai) (size bytes:Nat) (h1:P.underlying t=some (.slice e)) (h2:P.info? e=some i) (h3:i.zero=some z) (h4:i.size=size) (h5:i.bytes=bytes) (h6:z.cells.size=size) (h7:0<size)
  (v:ai) (n:Nat) (xs:aK) (hs:a.eval s=v) (vO:w.ownsRow base e size v n xs)
  (ad:Addr) (m c:Nat) (news:aK) (hx:a.eval x=.slice (some ad) m c) (hn:news.length=m*size) (hc:∀j u,news[j]?=some u->w.cell? (ad.add j)=some u) (h1c:∀u∈news,u.oneCell'=true)
  (b1:n+m<=maxLen) (b2:(n+m)*bytes<=140737488355328) (acF:base<=w.heap.size)
  (hK:∀v' w',w'.ownsRow base e size v' (n+m) (xs++news)->w.grownBy w' v.ownBlock->(v'.ownBlock=v.ownBlock\/v'.ownBlock=some w.heap.size)->K (a.put o.dst v') w'):
  if Region.wanted o (yielded ops a.tmps)=true then Oper.wp P o a w K Q else E:=by
 have hw:Region.wanted o (yielded ops a.tmps)=true:=auh;rw[ax hw];obtain⟨v',w',hr,r1,r2,_,r4⟩:=run_append_own_at (P:=P) w base t o.type e i z size bytes h1 h2 h3 h4 h5 h6 h7 v n xs vO ad m c news hn hc h1c b1 b2 acF;unfold Oper.wp;exact axO
theorem SV{P:aP}{ops:Array Oper}{o:Oper}{a:Act}{w:ah}{K:Act->ah->Prop}{Q:Exit->Act->ah->Prop}{E:Prop}
  (hg:o.guard=none) (s x:Operand) (t:aG) (uZ:o.op=Op.call {callee:=Callee.builtin Builtin.append,args:=#[s,x],argTypes:=#[t,t]})
  (base:Nat) (e:aG) (i:TypeInfo) (size:Nat) (h1:P.underlying t=some (.slice e)) (h2:P.info? e=some i)
  (v:ai) (n:Nat) (xs:aK) (hs:a.eval s=v) (vO:w.ownsRow base e size v n xs) (hx:a.eval x=.slice none 0 0)
  (hK:K (a.put o.dst v) w):
  if Region.wanted o (yielded ops a.tmps)=true then Oper.wp P o a w K Q else E:=by
 have hw:Region.wanted o (yielded ops a.tmps)=true:=auh;rw[ax hw];have hr:=run_append_owned_none (P:=P) (w:=w) base t o.type e i size h1 h2 v n xs vO;unfold Oper.wp;simp[execOp,uZ,resolve,invoke,builtin,hs,hx,hr,Result.andThen];exact hK
theorem Lp{w:ah}{B e n:Nat}{v:ai}{xs:aK}(h:w.ownsRow B e 1 v n xs){g:Nat}(hg:v.ownBlock=some g):∃cur,w.heap[g]?=some (.cells cur e (0,0)):=by
 rcases h.2 with⟨rfl,_⟩|⟨g',cap,cur,rfl,_,hh,_⟩
 .cases hg
 .cases hg;exact⟨cur,hh⟩
theorem uK{w:ah}{B e n rb:Nat}{v:ai}{xs:aK}{r:Rd}(h:w.ownsRow B e 1 v n xs)(hr:xU w rb r)(he:e≠102):v.ownBlock≠some rb:=by intro hg;obtain⟨cur,hh⟩:=Lp h hg;have hr':w.heap[rb]?=some (.cells r.cells.toArray 102 (0,0)):=hr;rw[hr']at hh;cases hh;exact he rfl
theorem Iu{w:ah}{B e e' n n':Nat}{v v':ai}{xs xs':aK}(h:w.ownsRow B e 1 v n xs)(h':w.ownsRow B e' 1 v' n' xs')(he:e≠e'):NR v v':=by intro g hg um;obtain⟨cur,hh⟩:=Lp h hg;obtain⟨at7,hh'⟩:=Lp h' um;rw[hh]at hh';cases hh';exact he rfl
theorem xU.ahb{w:ah}{rb:Nat}{s:St}{vN vS vC vT vF:ai}(h:xU w rb (s.rd vN vS vC vT vF))(v:ai):xU (w.setCell ⟨rb,12,none⟩ v) rb (s.rd vN vS vC v vF):=ql.set h 12 v
theorem uY{w:ah}{B e n rb i:Nat}{v u:ai}{xs:aK}(h:w.ownsRow B e 1 v n xs)(hr:v.ownBlock≠some rb):(w.setCell ⟨rb,i,none⟩ u).ownsRow B e 1 v n xs:=
 qY h (λg hg=>dA _ _ _ _ (λe=>hr (by rw[hg,e])))
theorem RI.text{B rb:Nat}{w w1:ah}{s:St}{t x:aj}{vN vS vC vT v1:ai}(I:RI B w rb s t vN vS vC vT)(h1:BK B w1 v1 (t++x))(hg:w.grownBy w1 vT.ownBlock)(hk:v1.ownBlock=vT.ownBlock\/v1.ownBlock=some w.heap.size):
  RI B (w1.setCell ⟨rb,12,none⟩ v1) rb s (t++x) vN vS vC v1/\qG w.heap.size (qQ rb vC vT) w (w1.setCell ⟨rb,12,none⟩ v1)/\w1.cell? ⟨rb,12,none⟩=some vT/\w1.frozen? ⟨rb,12,none⟩=false:=by
 have apd:=ql.lt I.rd;have hT:=uK I.ot I.rd aB
 have TU:xU w1 rb (s.rd vN vS vC vT .nilIface):=by exact ayq
 have key:∀{e n:Nat}{v:ai}{xs:aK},w.ownsRow B e 1 v n xs->NR v vT->w1.ownsRow B e 1 v n xs:=λh ha=>qY h (λg um=>hg.block g (h.lt g um).2 (λe=>ha g um e.symm))
 have hN1:=key I.on (Iu I.on I.ot aB);have AZ:=key I.os (Iu I.os I.ot aB);have hC1:=key I.oc I.ap;refine⟨⟨TU.ahb v1,uY hN1 (uK hN1 TU aB),uY AZ (uK AZ TU aB),uY hC1 (uK hC1 TU aB),uY h1 (uK h1 TU aB),?_,?_⟩,?_,ql.cell TU (i:=12) rfl,ql.frozen TU 12⟩
 .intro g Ko Oe;rcases hk with e|e
  .exact I.ap g Ko (e▸Oe)
  .have h2:=(kH I.oc g Ko).2;rw[e]at Oe;cases Oe;omega
 .have:=I.size;have:=hg.size;simp;omega
 .exact qG.setCell (qG.mono (qG.aba hg) (ay _) (λk hk=>.inr (.inr hk))) (p:=⟨rb,12,none⟩) (.inr (.inl rfl)) v1
theorem amM(a b:aj):rP a++rP b=rP (a++b):=fV
theorem St.XP{s:St}(hb:Bd s):s.sz<=400000:=by
 unfold St.sz yM;have:=hb.m;have:=hb.c;have:=hb.ln;split
 .omega
 .split
  .omega
  .split
   .omega
   .omega
theorem RI.drewN{B rb:Nat}{w:ah}{s:St}{t:aj}{vN vS vC vT:ai}(I:RI B w rb s t vN vS vC vT)(j:Nat):RI B (w.drewN j) rb s t vN vS vC vT:=⟨I.rd,I.on,I.os,I.oc,I.ot,I.ap,I.size⟩
theorem RI.drew{B rb:Nat}{w:ah}{s:St}{t:aj}{vN vS vC vT:ai}(I:RI B w rb s t vN vS vC vT):RI B w.drew rb s t vN vS vC vT:=⟨I.rd,I.on,I.os,I.oc,I.ot,I.ap,I.size⟩
theorem ZQ{B n:Nat}{w:ah}{v:ai}{t x:aj}(h:w.ownsRow B 5 1 v n (rP t++rP x)):BK B w v (t++x):=by rw[amM]at h;exact BK.of h
theorem qQ.fresh{rb H k:Nat}{vC vT v':ai}(hk:v'.ownBlock=vT.ownBlock\/v'.ownBlock=some H)(qB:k<H)(h:qQ rb vC v' k):qQ rb vC vT k:=by
 rcases h with h|h|h
 .exact .inl h
 .exact axk
 .rcases hk with e|e
  .exact .inr (.inr (e▸h))
  .rw[e]at h;cases h;omega
theorem Pt.Yi{w w':ah}{rb cp n:Nat}{ad:Addr}{vC vT v':ai}{p:aj}(hcp:p.length<=cp)(hM:0<p.length->¬qQ rb vC vT ad.block)(hcell:∀j,j<p.length->w.cell? (ad.add j)=some (.int .u8 (sV p j:Int)))(hn:n<=p.length)(hb:qG w.heap.size (qQ rb vC vT) w w')(hk:v'.ownBlock=vT.ownBlock\/v'.ownBlock=some w.heap.size):
  Pt w' (qQ rb vC v') (.slice (if cp=n then some ad else(some ad).map (·.add n)) (p.length-n) (cp-n)) (p.drop n):=by
 have h0:Pt w (qQ rb vC vT) (.slice (some ad) p.length cp) p:=.inr ⟨ad,cp,rfl,hcp,hM,hcell⟩;have h1:=h0.later hb (λ_ x=>x) (λk hk' x=>qQ.fresh hk hk' x);rcases h1 with⟨e,_⟩|⟨ad',cp',e,h2,h3,h4⟩
 .cases e
 .injection e with e1 e2 e3;injection e1 with e1;subst e1 e3;exact Pt.cut h2 h3 h4 hn
def U9(B:Nat)(w:ah)(rb:Nat)(s:St)(t p:aj)(vN vS vC vT:ai)(q:Ending)(w':ah):Prop:=
 ∃v' Df,q=.returned v'/\Pt w' (qQ rb vC Df) v' (p.drop (s.sz-t.length))/\RI B w' rb s (t++p.take (s.sz-t.length)) vN vS vC Df/\qG w.heap.size (qQ rb vC vT) w w'/\(Df.ownBlock=vT.ownBlock\/∃g,Df.ownBlock=some g/\w.heap.size<=g)
section
variable (B rb:Nat)(s:St)(t p:aj)(vN vS vC vT vp:ai)(hb:Bd s)(Nh:s.nx<=3)(ht:t.length<=s.sz)(hp:p.length<=4611686018427387904)(w:ah)(I:RI B w rb s t vN vS vC vT)(hP:Pt w (qQ rb vC vT) vp p)
include hb Nh ht hp I hP in
theorem ajm:Calls prog 88 #[.pointer (some ⟨rb,0,none⟩),vp] w λq w'=>U9 B w rb s t p vN vS vC vT q w':=by
 obtain⟨bc,cc,eC,hcc⟩:=I.oc.slice;obtain⟨bt,ct,eT,Ba⟩:=I.ot.slice;subst eT;have KS:=λn=>VU rb (s.rd vN vS vC (.slice bt t.length ct) .nilIface) bc s.qC.length cc eC mO mQ mP hb.qC Nh (w.drewN n) I.rd
 have hsz:yM s.nx s.c s.m s.ln s.qC.length=s.sz:=rfl;simp only[St.rd,hsz]at KS;unfold U9;have hz:=St.XP hb;obtain⟨z,ez⟩:∃z,s.sz=z:=⟨_,rfl⟩;rw[ez]at ht hz;simp only[ez]at KS⊢;have Z4:w.cell? ⟨rb,12,none⟩=some (.slice bt t.length ct):=ql.cell I.rd (i:=12) rfl;have f12:=ql.frozen I.rd 12
 obtain⟨n,hn1,hn2⟩:∃n:Nat,((p.length:Int)<(z:Int)-(t.length:Int)/\n=p.length\/(z:Int)-(t.length:Int)<=(p.length:Int)/\n+t.length=z)/\n<=p.length:=by
  rcases bK p.length (z-t.length)with h|h
  .exact⟨p.length,.inl ⟨ag,rfl⟩,ay _⟩
  .exact⟨z-t.length,.inr ⟨ag,ag⟩,h⟩
 have anM:p.drop (z-t.length)=p.drop n:=by
  rcases hn1 with⟨h1,h2⟩|⟨h1,h2⟩
  .rw[pG ag,pG ag]
  .rw[show z-t.length=n by omega]
 have afy:p.take (z-t.length)=p.take n:=by
  rcases hn1 with⟨h1,h2⟩|⟨h1,h2⟩
  .rw[gZ ag,gZ ag]
  .rw[show z-t.length=n by omega]
 rw[anM,afy]
 have K:∀j,Calls prog 118 #[.pointer (some ⟨rb,0,none⟩)] (w.drewN j) λq w'=>q=.returned (.int .i64 (z:Int))/\∃n,w'=w.drewN n:=λj=>
  (KS j).mono λq w' x=>⟨x.1,by obtain⟨i,hi⟩:=x.2;exact⟨j+i,avv⟩⟩
 obtain⟨i0,zo,xY,wW,vV⟩:=cO Hy;have TQ:t.length<=400000:=ag;have hnz:n<=400000:=ag;have aua:IntKind.i64.wrap ((z:Int)-(t.length:Int))=(z:Int)-(t.length:Int):=dH _ ag;have hBs:=I.size;clear KS ez hsz anM afy;rcases hP with⟨rfl,rfl⟩|⟨ad,cp,rfl,hcp,hM,hcell⟩
 .obtain rfl:n=0:=by simpa using hn2
  have sh:=VC none 0 0 0 0 rfl ag;have sl:=ab7 none 0 0 0 0 rfl ag;simp only[aY]at sl;have hot:=I.ot;unfold BK at hot;have hq:(0:Int)<=(z:Int)-(t.length:Int):=ag;have hJ:∀j,qG w.heap.size (qQ rb vC (.slice bt t.length ct)) w ((w.drewN j).setCell ⟨rb,12,none⟩ (.slice bt t.length ct)):=λj=>((qG.refl w.heap.size _ w).drewN j).setCell (p:=⟨rb,12,none⟩) (.inr (.inl rfl)) _
  have JN:=λj=>RI.text (w1:=w.drewN j) (x:=[]) I (by have:=I.ot;rw[dX];exact this) ⟨rfl,rfl,rfl,ay _,λ_ _ _=>rfl⟩ (.inl rfl)
  clear hn1;rcases nK 0 ((z:Int)-(t.length:Int))with h1|h1
  all_goals
   try(have h1':(z:Int)-(t.length:Int)=0:=by omega)
   go_enter func88,ntmps88
   go_wp2_with fail
   go_big_quiet (first|(go_at_call 118;exact(K _).mono (λ_ _ h=>⟨h.1,h.2⟩)))
   go_wp2_with fail
   go_region_law ((refine SV rfl _ _ 24 rfl B 5 i0 1 underlying24 zo _ _ _ rfl auy rfl ?_))
   go_wp2;go_ret;exact⟨_,_,rfl,.inl ⟨rfl,rfl⟩,(JN _).1,hJ _,.inl rfl⟩
 .have sh:=VC (some ad) p.length cp (n:Int) n rfl ag;have sl:=ab7 (some ad) p.length cp (n:Int) n rfl hn2;obtain⟨ra,era⟩:∃ra,(if cp=n then some ad else(some ad).map (·.add n))=ra:=⟨_,rfl⟩;simp only[era]at sl;have TP:(p.take n).length=n:=aJ
  have FK:∀j u,(rP (p.take n))[j]?=some u->w.cell? (ad.add j)=some u:=by intro j u hj;obtain⟨h1,rfl⟩:=JE hj;rw[TP]at h1;rw[hcell j ag];simp[sV,h1]
  have hot:=I.ot;unfold BK at hot;rcases hn1 with⟨h1,h2⟩|⟨h1,h2⟩
  .subst h2;go_enter func88,ntmps88
   go_wp2_with fail
   go_big_quiet (first|(go_at_call 118;exact(K _).mono (λ_ _ h=>⟨h.1,h.2⟩)))
   go_wp2_with fail
   go_region_law ((refine AB rfl _ _ 24 rfl B 5 i0 (.int .u8 0) 1 1 underlying24 zo xY wW vV rfl aB _ _ _ rfl auy ad p.length cp (rP (p.take p.length)) rfl (by rw[ru,TP];omega) (by exact FK) (KJ _) bT ag (by exact hBs) ?_;intro v2 w2 vH wS xJ;have ow:=ZQ vH;obtain⟨b2,c2,rfl,hc2⟩:=ow.slice;obtain⟨J,hJ,x12,y12⟩:=RI.text ((I.drewN _).drew) ow wS xJ))
   go_wp2;go_ret;have e2:(t++p.take p.length).length=t.length+p.length:=by rw[bM,TP]
   rw[e2]at J hJ xJ;have hJ':qG w.heap.size (qQ rb vC (.slice bt t.length ct)) w _:=((qG.refl w.heap.size _ w).drewN (nq+1)).trans hJ;have hpt:=Pt.Yi hcp hM hcell hn2 hJ' xJ;rw[era,mZ]at hpt;exact axQ
  .have h3:(z:Int)-(t.length:Int)=(n:Int):=ag;have h1':(n:Int)<=(p.length:Int):=ag;clear h1 h2;go_enter func88,ntmps88
   go_wp2_with fail
   go_big_quiet (first|(go_at_call 118;exact(K _).mono (λ_ _ h=>⟨h.1,h.2⟩)))
   go_wp2_with fail
   go_region_law ((refine AB rfl _ _ 24 rfl B 5 i0 (.int .u8 0) 1 1 underlying24 zo xY wW vV rfl aB _ _ _ rfl auy ad n cp (rP (p.take n)) rfl (by rw[ru,TP];omega) (by exact FK) (KJ _) bT ag (by exact hBs) ?_;intro v2 w2 vH wS xJ;have ow:=ZQ vH;obtain⟨b2,c2,rfl,hc2⟩:=ow.slice;obtain⟨J,hJ,x12,y12⟩:=RI.text ((I.drewN _).drew) ow wS xJ))
   go_wp2;go_ret;have e2:(t++p.take n).length=t.length+n:=by rw[bM,TP]
   rw[e2]at J hJ xJ;have hJ':qG w.heap.size (qQ rb vC (.slice bt t.length ct)) w _:=((qG.refl w.heap.size _ w).drewN (nq+1)).trans hJ;have hpt:=Pt.Yi hcp hM hcell hn2 hJ' xJ;rw[era]at hpt;exact axQ
end
theorem BK.none{B:Nat}{w:ah}{bt:aW}{n ct:Nat}{l:aj}(h:BK B w (.slice bt n ct) l):BK B w (.slice bt 0 ct) []:=by
 unfold BK at*;refine⟨fV,?_⟩;rcases h.2 with⟨e,h0⟩|⟨g,c,cur,e,hg,hh,hc,hm,hs,_⟩
 .cases e;exact .inl ⟨rfl,rfl⟩
 .cases e;exact .inr ⟨g,ct,cur,rfl,hg,hh,iH _,hm,hs,fV⟩
theorem RI.put{B rb i:Nat}{w:ah}{s s':St}{t t':aj}{vN vS vC vT Df u:ai}(I:RI B w rb s t vN vS vC vT)(h:(s.rd vN vS vC vT .nilIface).cells.set i u=(s'.rd vN vS vC Df .nilIface).cells)(h1:s'.ns=s.ns)(h2:s'.zs=s.zs)(h3:s'.qC=s.qC)(hT:BK B w Df t')(hk:Df.ownBlock=vT.ownBlock):RI B (w.setCell ⟨rb,i,none⟩ u) rb s' t' vN vS vC Df:=by
 refine⟨?_,?_,?_,?_,?_,?_,?_⟩
 .have:=ql.set I.rd i u;unfold xU;rw[<-h];exact this
 .rw[h1];exact uY I.on (uK I.on I.rd aB)
 .rw[h2];exact uY I.os (uK I.os I.rd aB)
 .rw[h3];exact uY I.oc (uK I.oc I.rd aB)
 .exact uY hT (uK hT I.rd aB)
 .intro g Ko Oe;exact I.ap g Ko (hk▸Oe)
 .have:=I.size;exact axb
section
variable (B rb:Nat)(s:St)(t:aj)(vN vS vC vT:ai)(hb:Bd s)(ht:t.length<=400000)(w:ah)(I:RI B w rb s t vN vS vC vT)
def abp(B:Nat)(w:ah)(rb:Nat)(s:St)(t:aj)(vN vS vC vT:ai)(q:Ending)(w':ah):Prop:=
 q=.returned (.tuple #[])/\∃Df,RI B w' rb (tq s t) [] vN vS vC Df/\qG w.heap.size (· =rb) w w'/\Df.ownBlock=vT.ownBlock
include hb ht I in
theorem adu:Calls prog 90 #[.pointer (some ⟨rb,0,none⟩)] w λq w'=>abp B w rb s t vN vS vC vT q w':=by
 obtain⟨bc,cc,eC,hcc⟩:=I.oc.slice;obtain⟨bt,ct,eT,Ba⟩:=I.ot.slice;subst eT;subst eC;have uD:=hb.pl;have Je:=hb.ln;have c6:=ql.cell I.rd (i:=6) rfl;have c8:=ql.cell I.rd (i:=8) rfl;have Xj:=ql.cell I.rd (i:=10) rfl;have TT:=ql.cell I.rd (i:=11) rfl;have Z4:=ql.cell I.rd (i:=12) rfl;have f10:=ql.frozen I.rd 10;have f11:=ql.frozen I.rd 11;have f12:=ql.frozen I.rd 12;simp only[St.rd]at c6 c8 Xj TT Z4;have sh:=VC bt t.length ct 0 0 rfl ag;have Nh:=hb.nx;obtain⟨nx,enx⟩:∃nx,s.nx=nx:=⟨_,rfl⟩;obtain⟨pl,Wq⟩:∃pl,s.pl=pl:=⟨_,rfl⟩;obtain⟨ln,eln⟩:∃ln,s.ln=ln:=⟨_,rfl⟩;have RU:IntKind.i64.wrap ((pl:Int)+(t.length:Int))=(pl:Int)+(t.length:Int):=dH _ ag;rw[enx]at Xj Nh;rw[Wq]at TT uD;rw[eln]at c8 Je;have I1:RI B (w.setCell ⟨rb,11,none⟩ (.int .i64 ((pl:Int)+(t.length:Int)))).drew rb {s with pl:=pl+t.length} t vN vS _ _:=(I.put (s':={s with pl:=pl+t.length}) (t':=t) rfl rfl rfl rfl I.ot rfl).drew;have yQ:qG w.heap.size (· =rb) w (w.setCell ⟨rb,11,none⟩ (.int .i64 ((pl:Int)+(t.length:Int)))).drew:=((qG.refl w.heap.size (· =rb) w).setCell (p:=⟨rb,11,none⟩) (.inr rfl) _).drew;have HM:Hid ((tq s t)={s with pl:=pl+t.length,nx:=zf s}):=by show _=_;unfold tq;rw[Wq]
 go_enter func90,ntmps90
 go_wp2_with fail
 refine CE 12 mixed ak ?_;simp only[jc,gG,jm,ik]
 repeat (first|go_big_quiet_skip|(go_big_quiet_want;go_big_quiet_op;go_big_quiet_on))
 refine wpQuiet_nil ?_
 go_upto_region 1 with(fail)
 clear c6 c8 Xj TT Z4 f10 f11 f12 I;generalize(w.setCell ⟨rb,11,none⟩ (.int .i64 ((pl:Int)+(t.length:Int)))).drew=w1 at I1 yQ⊢;have I2:RI B _ rb {s with pl:=pl+t.length} [] vN vS _ _:=I1.put (i:=12) (u:=.slice bt 0 ct) (s':={s with pl:=pl+t.length}) (t':=[]) (Df:=.slice bt 0 ct) rfl rfl rfl rfl I1.ot.none (by cases bt<;>rfl);have zJ:=yQ.setCell (p:=⟨rb,12,none⟩) (.inr rfl) (.slice bt 0 ct);have Z4:=ql.cell I1.rd (i:=12) rfl;have f12:=ql.frozen I1.rd 12;simp only[St.rd]at Z4
 go_upto_region 3 with(fail)
 clear Z4 f12 I1 yQ;generalize w1.setCell ⟨rb,12,none⟩ (.slice bt 0 ct)=w2 at I2 zJ⊢;have c6:=ql.cell I2.rd (i:=6) rfl;have c8:=ql.cell I2.rd (i:=8) rfl;have Xj:=ql.cell I2.rd (i:=10) rfl;have f10:=ql.frozen I2.rd 10;simp only[St.rd]at c6 c8 Xj;rw[enx]at Xj;rw[eln]at c8;have J0:∀(x j:Nat),RI B ((w2.drewN j).setCell ⟨rb,10,none⟩ (.int .i64 (x:Int))) rb {s with pl:=pl+t.length,nx:=x} [] vN vS _ _:=λx j=>(I2.drewN j).put (s':={s with pl:=pl+t.length,nx:=x}) (t':=[]) (Df:=.slice bt 0 ct) rfl rfl rfl rfl I2.ot rfl
 have hBB:∀(j:Nat)(u:ai),qG w.heap.size (· =rb) w ((w2.drewN j).setCell ⟨rb,10,none⟩ u):=λj u=>(zJ.drewN j).setCell (p:=⟨rb,10,none⟩) (.inr rfl) u
 by_cases q0:nx=0
 .have HX:Hid (zf s=1):=by show _=_;unfold zf;rw[enx,ax q0]
  subst q0;go_wp2;go_end0;refine⟨rfl,.slice bt 0 ct,?_,hBB 0 _,by cases bt<;>rfl⟩;rw[HM.out,HX.out];exact J0 1 0
 .have q0':((nx:Int)==0)=false:=aJ;by_cases q3:nx=3
  .have HX:Hid (zf s=4):=by show _=_;unfold zf;rw[enx,au q0,ax q3]
   subst q3;go_wp2;go_end0;refine⟨rfl,.slice bt 0 ct,?_,hBB 0 _,by cases bt<;>rfl⟩;rw[HM.out,HX.out];exact J0 4 0
  .have q3':((nx:Int)==3)=false:=aJ;by_cases q5:s.qC.length<ln
   .have HX:Hid (zf s=2):=by show _=_;unfold zf;rw[enx,eln,au q0,au q3,ax q5]
    go_wp2_with fail
    go_big_quiet (fail)
    go_wp2;go_end0;refine⟨rfl,.slice bt 0 ct,?_,hBB _ _,by cases bt<;>rfl⟩;rw[HM.out,HX.out];exact J0 2 _
   .have HX:Hid (zf s=3):=by show _=_;unfold zf;rw[enx,eln,au q0,au q3,au q5]
    go_wp2_with fail
    go_big_quiet (fail)
    go_wp2;go_end0;refine⟨rfl,.slice bt 0 ct,?_,hBB _ _,by cases bt<;>rfl⟩;rw[HM.out,HX.out];exact J0 3 _
