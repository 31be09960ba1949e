import Derived.Test.YtnbflnamlpodcaaGreatDoorPlB
set_option maxHeartbeats 4000000
set_option maxRecDepth 100000
namespace Go.Proofs.Y
open Go.Proofs.Tryz
theorem LX{u:List UInt8}{F:Int}{m:Nat}:RQ u F=some m↔m<u.length/\(F<=(m:Int)/\tJ u m≠0)/\∀j,j<m->F<=(j:Int)->tJ u j=0:=by
 unfold RQ;rw[nX];constructor
 .rintro⟨h1,h2,h3⟩;refine⟨jc,gQ,λj hj hF=>?_⟩;have:=h3 j hj;simp only[aul,atT,not_and,oh]at this;exact this hF
 .rintro⟨h1,h2,h3⟩;refine⟨jc,gQ,λj hj=>?_⟩;simp only[aul,atT,not_and,oh];exact h3 j hj
theorem Fq{u:List UInt8}{F:Int}:RQ u F=none↔∀m,m<u.length->F<=(m:Int)->tJ u m=0:=by
 unfold RQ;rw[nY];constructor
 .intro h m hm hF;have:=h m (by simpa using hm);simp only[gY,not_and,oh]at this;exact this hF
 .intro h m hm;simp only[gY,not_and,oh];exact h m (by simpa using hm)
theorem Ye{en:Int}:∀{p:List UInt8}{a m:Nat},(∀j,j<p.length->en<=((m+j:Nat):Int)->tJ p j=0)->GK en a m p=none
 |[],_,_,_=>rfl
 |b::p,a,m,h=>by
  have h0:(m:Int)<en\/b.toNat=0:=by
   rcases mJ (m:Int) en with x|x
   .exact .inl x
   .exact .inr (h 0 ai x)
  unfold GK;rw[aj h0];refine Ye (λj hj hx=>?_);have:=h (j+1) jb ae;rwa[IP]at this
theorem Yf{en:Int}:∀{p:List UInt8}{a m:Nat}(i:Nat),i<p.length->en<=((m+i:Nat):Int)->tJ p i≠0->(∀j,j<i->en<=((m+j:Nat):Int)->tJ p j=0)->GK en a m p=some (8,a+i)
 |[],_,_,_,h,_,_,_=>by simp at h
 |b::p,a,m,0,_,h2,h3,_=>by
  unfold GK
  have:¬((m:Int)<en\/b.toNat=0):=by
   rintro(x|x)
   .omega
   .exact h3 x
  rw[ah this];rfl
 |b::p,a,m,i+1,h1,h2,h3,h4=>by
  have h0:(m:Int)<en\/b.toNat=0:=by
   rcases mJ (m:Int) en with x|x
   .exact .inl x
   .exact .inr (h4 0 ae x)
  unfold GK;rw[aj h0];rw[Yf (p:=p) (a:=a+1) (m:=m+1) i gQ ae (by rwa[IP]at h3) (λj hj hx=>?_),show a+1+i=a+(i+1)by omega];have:=h4 (j+1) ae ae;rwa[IP]at this
theorem aq4{k i tt cl a:Nat}{u:List UInt8}(hu:cl+u.length<=tX k tt):(if decide (i<k)then GK ((tt:Int)-((i*tX k tt:Nat):Int)) a cl u else none)=(RQ u (A8 k i tt-(cl:Int))).map (λm=>(8,a+m)):=by
 by_cases VW:i<k
 .rw[iq VW,aj rfl];have hU:A8 k i tt=max 0 (min (tX k tt:Int) ((tt:Int)-((i*tX k tt:Nat):Int))):=by unfold A8;rw[ah ae]
  rw[hU];generalize((tt:Int)-((i*tX k tt:Nat):Int))=en;generalize tX k tt=L at*;cases hp:RQ u (max 0 (min (L:Int) en)-(cl:Int))with
  |none=>
   rw[Fq]at hp;rw[Ye (λj hj hx=>hp j hj ae)];rfl
  |some m=>
   rw[LX]at hp;obtain⟨h1,⟨h2,h3⟩,h4⟩:=hp;rw[Yf m h1 ae h3 (λj hj hx=>h4 j hj ae)];rfl
 .rw[dP VW,ah ai];have hU:A8 k i tt=(tX k tt:Int):=by unfold A8;rw[aj ae]
  rw[hU]
  have:RQ u ((tX k tt:Int)-(cl:Int))=none:=by rw[Fq];intro m hm hF;omega
  rw[this];rfl
theorem afh{s:St}{Z t:List UInt8}(h0:s.nx=2)(hm:Man s Z)(h1:s.qy.length<s.ln)(hc:1<=s.c)(f:Nat)(hf:s.ln<=f+s.qy.length)(he:SB s Z s.ln (32+s.m+8) []=SB s Z f s.pl s.qy)(hA:At Z s.pl t)(ht:t.length<=s.sz):
  (∀e,Ec s t=.error e->(e.1=4->Z.length=s.pl+t.length)->qP Z=.error e)/\
  (∀s',Ec s t=.ok s'->t.length=s.sz/\Man s' Z/\s'.nx=2/\s'.pl=s.pl/\s'.ln=s.ln/\s'.qy.length<=s'.ln/\∃f',s.ln<=f'+s'.qy.length/\SB s' Z s'.ln (32+s'.m+8) []=SB s' Z f' (s.pl+t.length) s'.qy):=by
 have hz:=sz2 h0;obtain⟨f,rfl⟩:∃g,f=g+1:=⟨f-1,ae⟩
 have rH:SB s Z (f+1) s.pl s.qy=match zW Z s.pl (min (s.ln-s.qy.length) s.c)with
   |some e=>.error e
   |none=>match(if decide (s.i<s.k)then GK ((CV s.zs:Int)-((s.i*DZ s.k s.zs:Nat):Int)) s.pl s.qy.length (part Z s.pl (min (s.ln-s.qy.length) s.c))else none)with
    |some e=>.error e
    |none=>SB s Z f (s.pl+min (s.ln-s.qy.length) s.c+8) (s.qy++part Z s.pl (min (s.ln-s.qy.length) s.c)):=by
  unfold SB;rw[yH,ah ae]
  all_goals rfl
 have hts:CV s.zs=s.tt:=by unfold CV;rw[aj hm.small,hm.tt]
 have hlS:DZ s.k s.zs=tX s.k s.tt:=by rw[y8 hm.small,hm.tt]
 rw[Nat.min_comm]at hz;obtain⟨q,eq⟩:∃q,min (s.ln-s.qy.length) s.c=q:=⟨_,rfl⟩;rw[eq]at hz rH;have hq1:1<=q:=ae;have hq2:s.qy.length+q<=s.ln:=ae;unfold Ec;cases hs:yO s t with
 |some x=>
  refine⟨λe hx h4=>?_,λs' hx=>jV⟩;cases hx;obtain⟨h5,_⟩:=Qn hA hz ht hs (λp hp=>ava);refine Io hm ?_;rw[he,rH,h5]
 |none=>
  obtain⟨h5,h6⟩:=Qn hA hz ht hs (λp hp=>by cases hp);have hl:=h6 rfl;have hP:part Z s.pl q=part t 0 q:=hA.cut (j:=0) ae;have hPl:(part t 0 q).length=q:=qF ae;rw[h5,hts,hlS,hP]at rH;simp only at rH;rw[aq4 (u:=part t 0 q) (by rw[hPl,<-hlS,<-hm.long];omega)]at rH;simp only;rw[hl,gz];cases hp:RQ (part t 0 q) (A8 s.k s.i s.tt-(s.qy.length:Int))with
  |some m=>
   refine⟨λe hx _=>?_,λs' hx=>jV⟩;cases hx;refine Io hm ?_;rw[he,rH,hp];rfl
  |none=>
   refine⟨λe hx=>jV,λs' hx=>?_⟩;cases hx;refine⟨ae,⟨⟨hm.head.ok,hm.head.k,hm.head.n,hm.head.i,hm.head.c,hm.head.m,hm.head.ln⟩,hm.names,hm.long,hm.tt,hm.small⟩,h0,rfl,rfl,?_,f,?_,?_⟩
   .simp only[aS];rw[hPl];exact hq2
   .simp only[aS];rw[hPl];omega
   .rw[hp]at rH;have:SB s Z s.ln (32+s.m+8) []=SB s Z f (s.pl+q+8) (s.qy++part t 0 q):=by rw[he,rH];rfl
    unfold SB at this⊢;rw[<-dw];exact this
theorem ajT{s:St}{Z t:List UInt8}(h0:s.nx=3)(hm:Man s Z)(he:SB s Z s.ln (32+s.m+8) []=.ok (s.qy,s.pl))(hA:At Z s.pl t)(ht:t.length<=s.sz):
  (∀e,IM s t=.error e->(e.1=4->Z.length=s.pl+t.length)->qP Z=.error e)/\(∀s',IM s t=.ok s'->t.length=4/\s'=s/\CU Z s.pl uQ=none):=by
 have hz:=sz3 h0;unfold IM;cases hb:BO t uQ with
 |some i=>
  refine⟨λe hx _=>?_,λs' hx=>jV⟩;cases hx;refine FO hm he ?_;rw[hA.abW hb];rfl
 |none=>
  simp only;by_cases q:t.length<s.sz
  .rw[aj q];refine⟨λe hx h4=>?_,λs' hx=>jV⟩;cases hx;have hZ:=h4 rfl;refine FO hm he ?_;rw[hA.Yb hb (by simp[uQ];omega) hZ,hZ];rfl
  .rw[ah q];refine⟨λe hx=>jV,λs' hx=>?_⟩;cases hx;exact⟨ae,rfl,hA.OU hb (by simp[uQ];omega)⟩
theorem Head.facts{s:St}{Z:List UInt8}(hh:Head s Z):1<=s.k/\s.k<=128/\s.k<=s.n/\s.n<=128/\s.i<s.n/\1<=s.c/\s.c<=65536/\4<=s.m/\s.m<=300000/\s.ln<=65536:=by
 have h2:=hh.ok;unfold FW at h2;split at h2
 .cases h2
 .have:=Md h2;rw[hh.k,hh.n,hh.i,hh.c,hh.m,hh.ln];omega
theorem abX{s:St}{Z t:List UInt8}(hG:Good s Z)(h4:s.nx≠4)(hA:At Z s.pl t)(ht:t.length<=s.sz){e:Nat×Nat}(h:uX s t=.error e)(hs:e.1=4->Z.length=s.pl+t.length):qP Z=.error e:=by
 unfold uX at h;cases hG with
 |head h0 h1 h2=>rw[aj h0]at h;exact WV ((ajO h0 h1 h2 hA ht).1 e h hs)
 |NJ h0 h1 h2 hh=>rw[ah ae,aj h0]at h;exact(am9 h0 h1 hh hA ht).1 e h hs
 |frame h0 hm h1 f hf he=>rw[ah ae,ah ae,aj h0]at h;exact(afh h0 hm h1 hm.head.facts.2.2.2.2.2.1 f hf he hA ht).1 e h hs
 |tail h0 hm h1 he=>rw[ah ae,ah ae,ah ae]at h;exact(ajT h0 hm he hA ht).1 e h hs
 |done h0=>exact absurd h0 h4
theorem afi{s s':St}{Z t:List UInt8}(hG:Good s Z)(h4:s.nx≠4)(hA:At Z s.pl t)(ht:t.length<=s.sz)(h:uX s t=.ok s'):t.length=s.sz/\Good (sV s' t) Z/\s'.pl=s.pl/\s'.nx=s.nx:=by
 unfold uX at h;cases hG with
 |head h0 h1 h2=>
  rw[aj h0]at h;obtain⟨a1,a2,a3,a4,a5⟩:=(ajO h0 h1 h2 hA ht).2 s' h;refine⟨by rw[sz0 h0];omega,?_,ae,ae⟩;refine .NJ ?_ ?_ a3 ⟨a2.ok,a2.k,a2.n,a2.i,a2.c,a2.m,a2.ln⟩
  .simp only[sV,xx];rw[aj a4]
  .simp only[sV];omega
 |NJ h0 h1 h2 hh=>
  rw[ah ae,aj h0]at h;obtain⟨a1,a2,a3,a4,a5,a6⟩:=(am9 h0 h1 hh hA ht).2 s' h;refine⟨by rw[sz1 h0];omega,?_,ae,ae⟩;have hM:Man (sV s' t) Z:=⟨⟨a2.head.ok,a2.head.k,a2.head.n,a2.head.i,a2.head.c,a2.head.m,a2.head.ln⟩,a2.names,a2.long,a2.tt,a2.small⟩;have vP:(sV s' t).pl=32+(sV s' t).m+8:=by simp only[sV];omega
  have xP:(sV s' t).qy=[]:=a3;have O0:(sV s' t).ln=s'.ln:=rfl;by_cases q:0<s'.ln
  .refine .frame ?_ hM (by rw[xP,O0];simpa using q) s'.ln (by rw[O0];omega) (by rw[vP,xP,O0]);simp only[sV,xx];rw[ah ae,ah ae,aj (by rw[a3];simpa using q)]
  .refine .tail ?_ hM (by rw[xP,O0];simp;omega) ?_
   .simp only[sV,xx];rw[ah ae,ah ae,ah (by rw[a3];simpa using q)]
   .rw[vP,xP,O0,show s'.ln=0 by omega];unfold SB;rw[yH]
 |frame h0 hm h1 f hf he=>
  rw[ah ae,ah ae,aj h0]at h;obtain⟨a1,a2,a3,a4,a5,a6,f',a7,a8⟩:=(afh h0 hm h1 hm.head.facts.2.2.2.2.2.1 f hf he hA ht).2 s' h;refine⟨a1,?_,a4,ae⟩;have hM:Man (sV s' t) Z:=⟨⟨a2.head.ok,a2.head.k,a2.head.n,a2.head.i,a2.head.c,a2.head.m,a2.head.ln⟩,a2.names,a2.long,a2.tt,a2.small⟩
  have h9:SB (sV s' t) Z (sV s' t).ln (32+(sV s' t).m+8) []=SB (sV s' t) Z f' (sV s' t).pl (sV s' t).qy:=by
   have e9:(sV s' t).pl=s.pl+t.length:=by simp only[sV];omega
   rw[e9];exact a8
  by_cases q:s'.qy.length<s'.ln
  .refine .frame ?_ hM q f' (by show s'.ln<=f'+s'.qy.length;omega) h9;simp only[sV,xx];rw[ah ae,ah ae,aj q]
  .refine .tail ?_ hM (by show s'.ln=s'.qy.length;omega) ?_
   .simp only[sV,xx];rw[ah ae,ah ae,ah q]
   .rw[h9];unfold SB;cases f' with
    |zero=>rw[yH]
    |succ f'=>rw[yH,aj (by show s'.ln<=s'.qy.length;omega)]
 |tail h0 hm h1 he=>
  rw[ah ae,ah ae,ah ae]at h;obtain⟨a1,rfl,a3⟩:=(ajT h0 hm he hA ht).2 s' h;refine⟨by rw[sz3 h0];omega,?_,rfl,rfl⟩;refine .done ?_ ⟨⟨hm.head.ok,hm.head.k,hm.head.n,hm.head.i,hm.head.c,hm.head.m,hm.head.ln⟩,hm.names,hm.long,hm.tt,hm.small⟩ h1 s'.pl ?_ he a3
  .simp only[sV,xx];rw[ah ae,aj h0]
  .simp only[sV];omega
 |done h0=>exact absurd h0 h4
def St.shd(s:St):xg:=⟨s.k,s.n,s.i,s.c,s.ns,s.zs,s.qy⟩
theorem abY{s:St}{Z:List UInt8}(hG:Good s Z)(h4:s.nx=4):qP Z=if Z.length<=s.pl then .ok s.shd else .error (9,s.pl):=by
 cases hG with
 |done h0 hm h1 a ha he hx=>
  by_cases q:Z.length<=s.pl
  .rw[aj q,<-show qP Z=.ok s.shd from ZE hm he (by rw[hx];simp only[Ph,yZ];rw[aj az])]
  .rw[ah q,ha];exact FO hm he (by rw[hx];simp only[Ph,yZ];rw[ah az])
 |head h0=>omega
 |NJ h0=>omega
 |frame h0=>omega
 |tail h0=>omega
theorem Good.bounds{s:St}{Z:List UInt8}(hG:Good s Z):s.nx<=4/\(s.nx=0\/1<=s.k/\s.k<=128/\s.k<=s.n/\s.n<=128/\s.i<s.n/\1<=s.c/\s.c<=65536/\4<=s.m/\s.m<=300000/\s.ln<=65536)/\(s.nx<=1->s.qy=[])/\(s.nx=2->s.qy.length<s.ln)/\(2<=s.nx->s.tt<=65536/\s.qy.length<=s.ln):=by
 cases hG with
 |head h0 h1 h2=>exact⟨ae,.inl h0,λ_=>h2,ae,ae⟩
 |NJ h0 h1 h2 hh=>exact⟨ae,.inr hh.facts,λ_=>h2,ae,ae⟩
 |frame h0 hm h1 f hf he=>exact⟨ae,.inr hm.head.facts,ae,λ_=>h1,λ_=>⟨auW,ae⟩⟩
 |tail h0 hm h1 he=>exact⟨ae,.inr hm.head.facts,ae,ae,λ_=>⟨auW,ae⟩⟩
 |done h0 hm h1=>exact⟨ae,.inr hm.head.facts,ae,ae,λ_=>⟨auW,ae⟩⟩
end Go.Proofs.Y
namespace Go.Proofs.Y
open Go.Proofs.Tryz
open Go.RowKit Go.Deep
def St.rd(s:St)(vN vS vC vT vF:Value):Rd:=⟨s.k,s.n,s.i,s.c,vN,vS,vC,s.m,s.ln,s.tt,s.nx,s.pl,vT,vF⟩
structure RI(B:Nat)(w:World)(rb:Nat)(s:St)(t:List UInt8)(vN vS vC vT:Value):Prop where
 rd:xR w rb (s.rd vN vS vC vT .nilIface)
 on:w.ownsRow B 9 1 vN s.ns.length (Dk s.ns)
 os:w.ownsRow B 3 1 vS s.zs.length (zF s.zs)
 oc:rG B w vC s.qy
 ot:rG B w vT t
 ap:Qq vC vT
 size:B<=w.heap.size
def qO(rb:Nat)(vC vT:Value)(k:Nat):Prop:=k=rb\/vC.ownBlock=some k\/vT.ownBlock=some k
structure Bd(s:St):Prop where
 m:s.m<=300000
 c:s.c<=65536
 ln:s.ln<=65536
 qy:s.qy.length<=s.ln
 nx:s.nx<=4
 pl:s.pl<=1000000
theorem rG.lies{B:Nat}{w:World}{v:Value}{l:List UInt8}(h:rG B w v l):qR w v (r_ l):=by
 have h2:=h;unfold rG at h;rcases h.2 with⟨e,h0⟩|⟨g,c,cur,e,hg,hh,hc,_⟩
 .subst e;have:l=[]:=kN.1 h0;subst this;exact⟨none,0,rfl,dL,λj u hj=>mX⟩
 .refine⟨some ⟨g,0,none⟩,c,by rw[e,sN],by rw[sN];exact hc,λj u hj=>⟨g,0,rfl,?_⟩⟩;obtain⟨hj1,rfl⟩:=Vo hj;rw[e]at h2;have:=World.ownsRow.cellAt h2 j ae;rw[aT,this];exact wR hj1
theorem rG.slice{B:Nat}{w:World}{v:Value}{l:List UInt8}(h:rG B w v l):∃ba cap,v=.slice ba l.length cap/\l.length<=cap:=by obtain⟨ba,cap,e,hc,_⟩:=h.lies;rw[sN]at e hc;exact⟨ba,cap,e,hc⟩
theorem Vp(a:Option Addr)(len cap:Nat)(N:Int)(n:Nat)(hN:N=n)(hn:n<=cap):∀w,(Instr.slice 34 (.slice a len cap) none (some (.int .i64 N)) none).run prog w=.ok (.slice a n cap) w:=by
 intro w;subst hN;have hu:prog.underlying 34=some (.slice (prog.elem 34)):=underlying34;rw[run_slice_h w 34 _ _ _ hu .i64 n ae ae]
 have hsz:(sizeOf (prog.elem 34)).run prog w=.ok 1 w:=by simp[sizeOf,go_sem];rfl
 rw[hsz];simp only[Result.andThen,sliced,gI,iD];cases a with
 |none=>simp
 |some ad=>simp[Addr.add]
theorem abZ(a:Option Addr)(len cap:Nat)(N:Int)(n:Nat)(hN:N=n)(hn:n<=len):∀w,(Instr.slice 34 (.slice a len cap) (some (.int .i64 N)) none none).run prog w=.ok (.slice (if cap=n then a else a.map (·.add n)) (len-n) (cap-n)) w:=by
 subst hN;have hu:prog.underlying 34=some (.slice (prog.elem 34)):=underlying34
 have hsz:∀w,(sizeOf (prog.elem 34)).run prog w=.ok 1 w:=λw=>by simp[sizeOf,go_sem];rfl
 intro w;rw[run_slice_l w 34 _ _ _ hu .i64 n ae ae,hsz];simp only[Result.andThen,gI,sliced,iD]
def Pt(w:World)(M:Nat->Prop)(v:Value)(p:List UInt8):Prop:=
 (v=.slice none 0 0/\p=[])\/∃ad cap,v=.slice (some ad) p.length cap/\p.length<=cap/\(0<p.length->¬M ad.block)/\∀j,j<p.length->w.cell? (ad.add j)=some (.int .u8 (tJ p j:Int))
theorem add_block(ad:Addr)(j:Nat):(ad.add j).block=ad.block:=by unfold Addr.add;split<;>rfl
theorem add_add(ad:Addr)(i j:Nat):(ad.add i).add j=ad.add (i+j):=by
 unfold Addr.add;by_cases h1:i=0
 .simp[h1]
 .by_cases h2:j=0
  .simp[h2]
  .have:¬i+j=0:=ae;simp only[h1,h2,this,aU,dw]
theorem Pt.cut{w:World}{M:Nat->Prop}{ad:Addr}{cap n:Nat}{p:List UInt8}(h1:p.length<=cap)(h2:0<p.length->¬M ad.block)(h3:∀j,j<p.length->w.cell? (ad.add j)=some (.int .u8 (tJ p j:Int)))(hn:n<=p.length):Pt w M (.slice (if cap=n then some ad else(some ad).map (·.add n)) (p.length-n) (cap-n)) (p.drop n):=by
 right
 have hl:(p.drop n).length=p.length-n:=ai;by_cases q:cap=n
 .rw[aj q];exact⟨ad,_,by rw[hl],m_,λh=>h2 ae,λj hj=>by rw[hl]at hj;omega⟩
 .rw[ah q];refine⟨ad.add n,_,by rw[hl];rfl,m_,λh=>by rw[add_block];exact h2 ae,λj hj=>?_⟩;rw[hl]at hj;rw[add_add,h3 (n+j) ae];simp[tJ]
theorem Pt.later{w w':World}{M M' S:Nat->Prop}{v:Value}{p:List UInt8}(h:Pt w M v p)(hb:ru w.heap.size S w w')(hS:∀k,S k->M k)(hM:∀k,k<w.heap.size->M' k->M k):Pt w' M' v p:=by
 rcases h with h|⟨ad,cap,rfl,h1,h2,h3⟩
 .exact .inl h
 .right
  refine⟨ad,cap,rfl,h1,λh=>?_,λj hj=>?_⟩
  .have qE:(ad.add 0).block<w.heap.size:=rM (h3 0 h);rw[add_block]at qE;exact λx=>h2 h (hM _ qE x)
  .have qE:(ad.add j).block<w.heap.size:=rM (h3 j hj);have hnS:¬S (ad.add j).block:=λx=>h2 ae (by rw[add_block]at x;exact hS _ x)
   rw[hb.cell qE hnS];exact h3 j hj
theorem JM{P:Program}{ops:Array Oper}{o:Oper}{a:Act}{w:World}{K:Act->World->Prop}{Q:Exit->Act->World->Prop}{E:Prop}
  (hg:o.guard=none) (s x:Operand) (t:TypeId) (uJ:o.op=Op.call {callee:=Callee.builtin Builtin.append,args:=#[s,x],argTypes:=#[t,t]})
  (base:Nat) (e:TypeId) (i:TypeInfo) (z:Value) (size bytes:Nat) (h1:P.underlying t=some (.slice e)) (h2:P.info? e=some i) (h3:i.zero=some z) (h4:i.size=size) (h5:i.bytes=bytes) (h6:z.cells.size=size) (h7:0<size)
  (v:Value) (n:Nat) (xs:List Value) (hs:a.eval s=v) (uK:w.ownsRow base e size v n xs)
  (ad:Addr) (m c:Nat) (news:List Value) (hx:a.eval x=.slice (some ad) m c) (hn:news.length=m*size) (hc:∀j u,news[j]?=some u->w.cell? (ad.add j)=some u) (h1c:∀u∈news,u.oneCell'=true)
  (b1:n+m<=maxLen) (b2:(n+m)*bytes<=140737488355328) (akS:base<=w.heap.size)
  (hK:∀v' w',w'.ownsRow base e size v' (n+m) (xs++news)->w.grownBy w' v.ownBlock->(v'.ownBlock=v.ownBlock\/v'.ownBlock=some w.heap.size)->K (a.put o.dst v') w'):
  if Region.wanted o (yielded ops a.tmps)=true then Oper.wp P o a w K Q else E:=by
 have hw:Region.wanted o (yielded ops a.tmps)=true:=auF;rw[aj hw];obtain⟨v',w',hr,r1,r2,_,r4⟩:=run_append_own_at (P:=P) w base t o.type e i z size bytes h1 h2 h3 h4 h5 h6 h7 v n xs uK ad m c news hn hc h1c b1 b2 akS;unfold Oper.wp;exact axP
theorem SE{P:Program}{ops:Array Oper}{o:Oper}{a:Act}{w:World}{K:Act->World->Prop}{Q:Exit->Act->World->Prop}{E:Prop}
  (hg:o.guard=none) (s x:Operand) (t:TypeId) (uJ:o.op=Op.call {callee:=Callee.builtin Builtin.append,args:=#[s,x],argTypes:=#[t,t]})
  (base:Nat) (e:TypeId) (i:TypeInfo) (size:Nat) (h1:P.underlying t=some (.slice e)) (h2:P.info? e=some i)
  (v:Value) (n:Nat) (xs:List Value) (hs:a.eval s=v) (uK:w.ownsRow base e size v n xs) (hx:a.eval x=.slice none 0 0)
  (hK:K (a.put o.dst v) w):
  if Region.wanted o (yielded ops a.tmps)=true then Oper.wp P o a w K Q else E:=by
 have hw:Region.wanted o (yielded ops a.tmps)=true:=auF;rw[aj hw];have hr:=run_append_owned_none (P:=P) (w:=w) base t o.type e i size h1 h2 v n xs uK;unfold Oper.wp;simp[execOp,uJ,resolve,invoke,builtin,hs,hx,hr,Result.andThen];exact hK
theorem Kw{w:World}{B e n:Nat}{v:Value}{xs:List Value}(h:w.ownsRow B e 1 v n xs){g:Nat}(hg:v.ownBlock=some g):∃cur,w.heap[g]?=some (.cells cur e (0,0)):=by
 rcases h.2 with⟨rfl,_⟩|⟨g',cap,cur,rfl,_,hh,_⟩
 .cases hg
 .cases hg;exact⟨cur,hh⟩
theorem uC{w:World}{B e n rb:Nat}{v:Value}{xs:List Value}{r:Rd}(h:w.ownsRow B e 1 v n xs)(hr:xR w rb r)(he:e≠122):v.ownBlock≠some rb:=by intro hg;obtain⟨cur,hh⟩:=Kw h hg;have hr':w.heap[rb]?=some (.cells r.cells.toArray 122 (0,0)):=hr;rw[hr']at hh;cases hh;exact he rfl
theorem H_{w:World}{B e e' n n':Nat}{v v':Value}{xs xs':List Value}(h:w.ownsRow B e 1 v n xs)(h':w.ownsRow B e' 1 v' n' xs')(he:e≠e'):Qq v v':=by intro g hg uB;obtain⟨cur,hh⟩:=Kw h hg;obtain⟨atL,hh'⟩:=Kw h' uB;rw[hh]at hh';cases hh';exact he rfl
theorem xR.agU{w:World}{rb:Nat}{s:St}{vN vS vC vT vF:Value}(h:xR w rb (s.rd vN vS vC vT vF))(v:Value):xR (w.setCell ⟨rb,12,none⟩ v) rb (s.rd vN vS vC v vF):=qf.set h 12 v
theorem uO{w:World}{B e n rb i:Nat}{v u:Value}{xs:List Value}(h:w.ownsRow B e 1 v n xs)(hr:v.ownBlock≠some rb):(w.setCell ⟨rb,i,none⟩ u).ownsRow B e 1 v n xs:=
 vI h (λg hg=>bF _ _ _ _ (λe=>hr (by rw[hg,e])))
theorem RI.text{B rb:Nat}{w w1:World}{s:St}{t x:List UInt8}{vN vS vC vT v1:Value}(I:RI B w rb s t vN vS vC vT)(h1:rG B w1 v1 (t++x))(hg:w.grownBy w1 vT.ownBlock)(hk:v1.ownBlock=vT.ownBlock\/v1.ownBlock=some w.heap.size):
  RI B (w1.setCell ⟨rb,12,none⟩ v1) rb s (t++x) vN vS vC v1/\ru w.heap.size (qO rb vC vT) w (w1.setCell ⟨rb,12,none⟩ v1)/\w1.cell? ⟨rb,12,none⟩=some vT/\w1.frozen? ⟨rb,12,none⟩=false:=by
 have ao8:=qf.lt I.rd;have hT:=uC I.ot I.rd au
 have RJ:xR w1 rb (s.rd vN vS vC vT .nilIface):=by exact axz
 have key:∀{e n:Nat}{v:Value}{xs:List Value},w.ownsRow B e 1 v n xs->Qq v vT->w1.ownsRow B e 1 v n xs:=λh ha=>vI h (λg uB=>hg.block g (h.lt g uB).2 (λe=>ha g uB e.symm))
 have hN1:=key I.on (H_ I.on I.ot au);have Nw:=key I.os (H_ I.os I.ot au);have hC1:=key I.oc I.ap;refine⟨⟨RJ.agU v1,uO hN1 (uC hN1 RJ au),uO Nw (uC Nw RJ au),uO hC1 (uC hC1 RJ au),uO h1 (uC h1 RJ au),?_,?_⟩,?_,qf.cell RJ (i:=12) rfl,qf.frozen RJ 12⟩
 .intro g Rz SV;rcases hk with e|e
  .exact I.ap g Rz (e▸SV)
  .have h2:=(eQ I.oc g Rz).2;rw[e]at SV;cases SV;omega
 .have:=I.size;have:=hg.size;simp;omega
 .exact ru.setCell (ru.mono (ru.ab1 hg) (ak _) (λk hk=>.inr (.inr hk))) (p:=⟨rb,12,none⟩) (.inr (.inl rfl)) v1
theorem amx(a b:List UInt8):r_ a++r_ b=r_ (a++b):=dL
theorem St.Yc{s:St}(hb:Bd s):s.sz<=400000:=by
 unfold St.sz yB;have:=hb.m;have:=hb.c;have:=hb.ln;split
 .omega
 .split
  .omega
  .split
   .omega
   .omega
theorem RI.drewN{B rb:Nat}{w:World}{s:St}{t:List UInt8}{vN vS vC vT:Value}(I:RI B w rb s t vN vS vC vT)(j:Nat):RI B (w.drewN j) rb s t vN vS vC vT:=⟨I.rd,I.on,I.os,I.oc,I.ot,I.ap,I.size⟩
theorem RI.drew{B rb:Nat}{w:World}{s:St}{t:List UInt8}{vN vS vC vT:Value}(I:RI B w rb s t vN vS vC vT):RI B w.drew rb s t vN vS vC vT:=⟨I.rd,I.on,I.os,I.oc,I.ot,I.ap,I.size⟩
theorem ZL{B n:Nat}{w:World}{v:Value}{t x:List UInt8}(h:w.ownsRow B 5 1 v n (r_ t++r_ x)):rG B w v (t++x):=by rw[amx]at h;exact rG.of h
theorem qO.fresh{rb H k:Nat}{vC vT v':Value}(hk:v'.ownBlock=vT.ownBlock\/v'.ownBlock=some H)(qE:k<H)(h:qO rb vC v' k):qO rb vC vT k:=by
 rcases h with h|h|h
 .exact .inl h
 .exact awF
 .rcases hk with e|e
  .exact .inr (.inr (e▸h))
  .rw[e]at h;cases h;omega
theorem Pt.Yg{w w':World}{rb cp n:Nat}{ad:Addr}{vC vT v':Value}{p:List UInt8}(hcp:p.length<=cp)(hM:0<p.length->¬qO rb vC vT ad.block)(hcell:∀j,j<p.length->w.cell? (ad.add j)=some (.int .u8 (tJ p j:Int)))(hn:n<=p.length)(hb:ru w.heap.size (qO rb vC vT) w w')(hk:v'.ownBlock=vT.ownBlock\/v'.ownBlock=some w.heap.size):
  Pt w' (qO rb vC v') (.slice (if cp=n then some ad else(some ad).map (·.add n)) (p.length-n) (cp-n)) (p.drop n):=by
 have h0:Pt w (qO rb vC vT) (.slice (some ad) p.length cp) p:=.inr ⟨ad,cp,rfl,hcp,hM,hcell⟩;have h1:=h0.later hb (λ_ x=>x) (λk VH x=>qO.fresh hk VH x);rcases h1 with⟨e,_⟩|⟨ad',cp',e,h2,h3,h4⟩
 .cases e
 .injection e with e1 e2 e3;injection e1 with e1;subst e1 e3;exact Pt.cut h2 h3 h4 hn
def Vq(B:Nat)(w:World)(rb:Nat)(s:St)(t p:List UInt8)(vN vS vC vT:Value)(q:Ending)(w':World):Prop:=
 ∃v' Dq,q=.returned v'/\Pt w' (qO rb vC Dq) v' (p.drop (s.sz-t.length))/\RI B w' rb s (t++p.take (s.sz-t.length)) vN vS vC Dq/\ru w.heap.size (qO rb vC vT) w w'/\(Dq.ownBlock=vT.ownBlock\/∃g,Dq.ownBlock=some g/\w.heap.size<=g)
section
variable (B rb:Nat)(s:St)(t p:List UInt8)(vN vS vC vT vp:Value)(hb:Bd s)(NG:s.nx<=3)(ht:t.length<=s.sz)(hp:p.length<=4611686018427387904)(w:World)(I:RI B w rb s t vN vS vC vT)(hP:Pt w (qO rb vC vT) vp p)
include hb NG ht hp I hP in
theorem ajU:Calls prog 121 #[.pointer (some ⟨rb,0,none⟩),vp] w λq w'=>Vq B w rb s t p vN vS vC vT q w':=by
 obtain⟨bc,cc,eC,hcc⟩:=I.oc.slice;obtain⟨bt,ct,eT,A7⟩:=I.ot.slice;subst eT;have KS:=λn=>VN rb (s.rd vN vS vC (.slice bt t.length ct) .nilIface) bc s.qy.length cc eC lM lT lQ hb.qy NG (w.drewN n) I.rd
 have hsz:yB s.nx s.c s.m s.ln s.qy.length=s.sz:=rfl;simp only[St.rd,hsz]at KS;unfold Vq;have hz:=St.Yc hb;obtain⟨z,ez⟩:∃z,s.sz=z:=⟨_,rfl⟩;rw[ez]at ht hz;simp only[ez]at KS⊢;have ZW:w.cell? ⟨rb,12,none⟩=some (.slice bt t.length ct):=qf.cell I.rd (i:=12) rfl;have f12:=qf.frozen I.rd 12
 obtain⟨n,ZQ,hn2⟩:∃n:Nat,((p.length:Int)<(z:Int)-(t.length:Int)/\n=p.length\/(z:Int)-(t.length:Int)<=(p.length:Int)/\n+t.length=z)/\n<=p.length:=by
  rcases aQ p.length (z-t.length)with h|h
  .exact⟨p.length,.inl ⟨ae,rfl⟩,ak _⟩
  .exact⟨z-t.length,.inr ⟨ae,ae⟩,h⟩
 have ann:p.drop (z-t.length)=p.drop n:=by
  rcases ZQ with⟨h1,h2⟩|⟨h1,h2⟩
  .rw[n_ ae,n_ ae]
  .rw[show z-t.length=n by omega]
 have afr:p.take (z-t.length)=p.take n:=by
  rcases ZQ with⟨h1,h2⟩|⟨h1,h2⟩
  .rw[iF ae,iF ae]
  .rw[show z-t.length=n by omega]
 rw[ann,afr]
 have K:∀j,Calls prog 129 #[.pointer (some ⟨rb,0,none⟩)] (w.drewN j) λq w'=>q=.returned (.int .i64 (z:Int))/\∃n,w'=w.drewN n:=λj=>
  (KS j).mono λq w' x=>⟨x.1,by obtain⟨i,hi⟩:=x.2;exact⟨j+i,auX⟩⟩
 obtain⟨i0,Af,x_,w_,wH⟩:=bG Dc;have Yp:t.length<=400000:=ae;have hnz:n<=400000:=ae;have atM:IntKind.i64.wrap ((z:Int)-(t.length:Int))=(z:Int)-(t.length:Int):=dV _ ae;have hBs:=I.size;clear KS ez hsz ann afr;rcases hP with⟨rfl,rfl⟩|⟨ad,cp,rfl,hcp,hM,hcell⟩
 .obtain rfl:n=0:=by simpa using hn2
  have sh:=Vp none 0 0 0 0 rfl ae;have sl:=abZ none 0 0 0 0 rfl ae;simp only[aF]at sl;have hot:=I.ot;unfold rG at hot;have hq:(0:Int)<=(z:Int)-(t.length:Int):=ae;have hJ:∀j,ru w.heap.size (qO rb vC (.slice bt t.length ct)) w ((w.drewN j).setCell ⟨rb,12,none⟩ (.slice bt t.length ct)):=λj=>((ru.refl w.heap.size _ w).drewN j).setCell (p:=⟨rb,12,none⟩) (.inr (.inl rfl)) _
  have JN:=λj=>RI.text (w1:=w.drewN j) (x:=[]) I (by have:=I.ot;rw[dD];exact this) ⟨rfl,rfl,rfl,ak _,λ_ _ _=>rfl⟩ (.inl rfl)
  clear ZQ;rcases mJ 0 ((z:Int)-(t.length:Int))with h1|h1
  all_goals
   try(have h1':(z:Int)-(t.length:Int)=0:=by omega)
   go_enter func121,ntmps121
   go_wp2_with fail
   go_big_quiet (first|(go_at_call 129;exact(K _).mono (λ_ _ h=>⟨h.1,h.2⟩)))
   go_wp2_with fail
   go_region_law ((refine SE rfl _ _ 34 rfl B 5 i0 1 underlying34 Af _ _ _ rfl pY rfl ?_))
   go_wp2;go_ret;exact⟨_,_,rfl,.inl ⟨rfl,rfl⟩,(JN _).1,hJ _,.inl rfl⟩
 .have sh:=Vp (some ad) p.length cp (n:Int) n rfl ae;have sl:=abZ (some ad) p.length cp (n:Int) n rfl hn2;obtain⟨ra,era⟩:∃ra,(if cp=n then some ad else(some ad).map (·.add n))=ra:=⟨_,rfl⟩;simp only[era]at sl;have htk:(p.take n).length=n:=az
  have VP:∀j u,(r_ (p.take n))[j]?=some u->w.cell? (ad.add j)=some u:=by intro j u hj;obtain⟨h1,rfl⟩:=Vo hj;rw[htk]at h1;rw[hcell j ae];simp[tJ,h1]
  have hot:=I.ot;unfold rG at hot;rcases ZQ with⟨h1,h2⟩|⟨h1,h2⟩
  .subst h2;go_enter func121,ntmps121
   go_wp2_with fail
   go_big_quiet (first|(go_at_call 129;exact(K _).mono (λ_ _ h=>⟨h.1,h.2⟩)))
   go_wp2_with fail
   go_region_law ((refine JM rfl _ _ 34 rfl B 5 i0 (.int .u8 0) 1 1 underlying34 Af x_ w_ wH rfl au _ _ _ rfl pY ad p.length cp (r_ (p.take p.length)) rfl (by rw[sN,htk];omega) (by exact VP) (EK _) bH ae (by exact hBs) ?_;intro v2 w2 zC zT AX;have ow:=ZL zC;obtain⟨b2,c2,rfl,VD⟩:=ow.slice;obtain⟨J,hJ,x12,y12⟩:=RI.text ((I.drewN _).drew) ow zT AX))
   go_wp2;go_ret;have e2:(t++p.take p.length).length=t.length+p.length:=by rw[aS,htk]
   rw[e2]at J hJ AX;have hJ':ru w.heap.size (qO rb vC (.slice bt t.length ct)) w _:=((ru.refl w.heap.size _ w).drewN (nq+1)).trans hJ;have hpt:=Pt.Yg hcp hM hcell hn2 hJ' AX;rw[era,kD]at hpt;exact axj
  .have h3:(z:Int)-(t.length:Int)=(n:Int):=ae;have h1':(n:Int)<=(p.length:Int):=ae;clear h1 h2;go_enter func121,ntmps121
   go_wp2_with fail
   go_big_quiet (first|(go_at_call 129;exact(K _).mono (λ_ _ h=>⟨h.1,h.2⟩)))
   go_wp2_with fail
   go_region_law ((refine JM rfl _ _ 34 rfl B 5 i0 (.int .u8 0) 1 1 underlying34 Af x_ w_ wH rfl au _ _ _ rfl pY ad n cp (r_ (p.take n)) rfl (by rw[sN,htk];omega) (by exact VP) (EK _) bH ae (by exact hBs) ?_;intro v2 w2 zC zT AX;have ow:=ZL zC;obtain⟨b2,c2,rfl,VD⟩:=ow.slice;obtain⟨J,hJ,x12,y12⟩:=RI.text ((I.drewN _).drew) ow zT AX))
   go_wp2;go_ret;have e2:(t++p.take n).length=t.length+n:=by rw[aS,htk]
   rw[e2]at J hJ AX;have hJ':ru w.heap.size (qO rb vC (.slice bt t.length ct)) w _:=((ru.refl w.heap.size _ w).drewN (nq+1)).trans hJ;have hpt:=Pt.Yg hcp hM hcell hn2 hJ' AX;rw[era]at hpt;exact axj
end
theorem rG.none{B:Nat}{w:World}{bt:Option Addr}{n ct:Nat}{l:List UInt8}(h:rG B w (.slice bt n ct) l):rG B w (.slice bt 0 ct) []:=by
 unfold rG at*;refine⟨dL,?_⟩;rcases h.2 with⟨e,h0⟩|⟨g,c,cur,e,hg,hh,hc,hm,hs,_⟩
 .cases e;exact .inl ⟨rfl,rfl⟩
 .cases e;exact .inr ⟨g,ct,cur,rfl,hg,hh,fC _,hm,hs,dL⟩
theorem RI.put{B rb i:Nat}{w:World}{s s':St}{t t':List UInt8}{vN vS vC vT Dq u:Value}(I:RI B w rb s t vN vS vC vT)(h:(s.rd vN vS vC vT .nilIface).cells.set i u=(s'.rd vN vS vC Dq .nilIface).cells)(h1:s'.ns=s.ns)(h2:s'.zs=s.zs)(h3:s'.qy=s.qy)(hT:rG B w Dq t')(hk:Dq.ownBlock=vT.ownBlock):RI B (w.setCell ⟨rb,i,none⟩ u) rb s' t' vN vS vC Dq:=by
 refine⟨?_,?_,?_,?_,?_,?_,?_⟩
 .have:=qf.set I.rd i u;unfold xR;rw[<-h];exact this
 .rw[h1];exact uO I.on (uC I.on I.rd au)
 .rw[h2];exact uO I.os (uC I.os I.rd au)
 .rw[h3];exact uO I.oc (uC I.oc I.rd au)
 .exact uO hT (uC hT I.rd au)
 .intro g Rz SV;exact I.ap g Rz (hk▸SV)
 .have:=I.size;exact aww
section
variable (B rb:Nat)(s:St)(t:List UInt8)(vN vS vC vT:Value)(hb:Bd s)(ht:t.length<=400000)(w:World)(I:RI B w rb s t vN vS vC vT)
def ab2(B:Nat)(w:World)(rb:Nat)(s:St)(t:List UInt8)(vN vS vC vT:Value)(q:Ending)(w':World):Prop:=
 q=.returned (.tuple #[])/\∃Dq,RI B w' rb (sV s t) [] vN vS vC Dq/\ru w.heap.size (· =rb) w w'/\Dq.ownBlock=vT.ownBlock
include hb ht I in
theorem ad8:Calls prog 123 #[.pointer (some ⟨rb,0,none⟩)] w λq w'=>ab2 B w rb s t vN vS vC vT q w':=by
 obtain⟨bc,cc,eC,hcc⟩:=I.oc.slice;obtain⟨bt,ct,eT,A7⟩:=I.ot.slice;subst eT;subst eC;have vP:=hb.pl;have O0:=hb.ln;have c6:=qf.cell I.rd (i:=6) rfl;have c8:=qf.cell I.rd (i:=8) rfl;have Xf:=qf.cell I.rd (i:=10) rfl;have TF:=qf.cell I.rd (i:=11) rfl;have ZW:=qf.cell I.rd (i:=12) rfl;have f10:=qf.frozen I.rd 10;have f11:=qf.frozen I.rd 11;have f12:=qf.frozen I.rd 12;simp only[St.rd]at c6 c8 Xf TF ZW;have sh:=Vp bt t.length ct 0 0 rfl ae;have NG:=hb.nx;obtain⟨nx,enx⟩:∃nx,s.nx=nx:=⟨_,rfl⟩;obtain⟨pl,WT⟩:∃pl,s.pl=pl:=⟨_,rfl⟩;obtain⟨ln,eln⟩:∃ln,s.ln=ln:=⟨_,rfl⟩;have VV:IntKind.i64.wrap ((pl:Int)+(t.length:Int))=(pl:Int)+(t.length:Int):=dV _ ae;rw[enx]at Xf NG;rw[WT]at TF vP;rw[eln]at c8 O0;have I1:RI B (w.setCell ⟨rb,11,none⟩ (.int .i64 ((pl:Int)+(t.length:Int)))).drew rb {s with pl:=pl+t.length} t vN vS _ _:=(I.put (s':={s with pl:=pl+t.length}) (t':=t) rfl rfl rfl rfl I.ot rfl).drew;have Iq:ru w.heap.size (· =rb) w (w.setCell ⟨rb,11,none⟩ (.int .i64 ((pl:Int)+(t.length:Int)))).drew:=((ru.refl w.heap.size (· =rb) w).setCell (p:=⟨rb,11,none⟩) (.inr rfl) _).drew;have HM:Hid ((sV s t)={s with pl:=pl+t.length,nx:=xx s}):=by show _=_;unfold sV;rw[WT]
 go_enter func123,ntmps123
 go_wp2_with fail
 refine Cf 12 mixed ag ?_;simp only[nP,kG,nZ,kS]
 repeat (first|go_big_quiet_skip|(go_big_quiet_want;go_big_quiet_op;go_big_quiet_on))
 refine wpQuiet_nil ?_
 go_upto_region 1 with(fail)
 clear c6 c8 Xf TF ZW f10 f11 f12 I;generalize(w.setCell ⟨rb,11,none⟩ (.int .i64 ((pl:Int)+(t.length:Int)))).drew=w1 at I1 Iq⊢;have I2:RI B _ rb {s with pl:=pl+t.length} [] vN vS _ _:=I1.put (i:=12) (u:=.slice bt 0 ct) (s':={s with pl:=pl+t.length}) (t':=[]) (Dq:=.slice bt 0 ct) rfl rfl rfl rfl I1.ot.none (by cases bt<;>rfl);have Ae:=Iq.setCell (p:=⟨rb,12,none⟩) (.inr rfl) (.slice bt 0 ct);have ZW:=qf.cell I1.rd (i:=12) rfl;have f12:=qf.frozen I1.rd 12;simp only[St.rd]at ZW
 go_upto_region 3 with(fail)
 clear ZW f12 I1 Iq;generalize w1.setCell ⟨rb,12,none⟩ (.slice bt 0 ct)=w2 at I2 Ae⊢;have c6:=qf.cell I2.rd (i:=6) rfl;have c8:=qf.cell I2.rd (i:=8) rfl;have Xf:=qf.cell I2.rd (i:=10) rfl;have f10:=qf.frozen I2.rd 10;simp only[St.rd]at c6 c8 Xf;rw[enx]at Xf;rw[eln]at c8;have J0:∀(x j:Nat),RI B ((w2.drewN j).setCell ⟨rb,10,none⟩ (.int .i64 (x:Int))) rb {s with pl:=pl+t.length,nx:=x} [] vN vS _ _:=λx j=>(I2.drewN j).put (s':={s with pl:=pl+t.length,nx:=x}) (t':=[]) (Dq:=.slice bt 0 ct) rfl rfl rfl rfl I2.ot rfl
 have hBB:∀(j:Nat)(u:Value),ru w.heap.size (· =rb) w ((w2.drewN j).setCell ⟨rb,10,none⟩ u):=λj u=>(Ae.drewN j).setCell (p:=⟨rb,10,none⟩) (.inr rfl) u
 by_cases q0:nx=0
 .have HX:Hid (xx s=1):=by show _=_;unfold xx;rw[enx,aj q0]
  subst q0;go_wp2;go_end0;refine⟨rfl,.slice bt 0 ct,?_,hBB 0 _,by cases bt<;>rfl⟩;rw[HM.out,HX.out];exact J0 1 0
 .have q0':((nx:Int)==0)=false:=az;by_cases q3:nx=3
  .have HX:Hid (xx s=4):=by show _=_;unfold xx;rw[enx,ah q0,aj q3]
   subst q3;go_wp2;go_end0;refine⟨rfl,.slice bt 0 ct,?_,hBB 0 _,by cases bt<;>rfl⟩;rw[HM.out,HX.out];exact J0 4 0
  .have q3':((nx:Int)==3)=false:=az;by_cases q5:s.qy.length<ln
   .have HX:Hid (xx s=2):=by show _=_;unfold xx;rw[enx,eln,ah q0,ah q3,aj q5]
    go_wp2_with fail
    go_big_quiet (fail)
    go_wp2;go_end0;refine⟨rfl,.slice bt 0 ct,?_,hBB _ _,by cases bt<;>rfl⟩;rw[HM.out,HX.out];exact J0 2 _
   .have HX:Hid (xx s=3):=by show _=_;unfold xx;rw[enx,eln,ah q0,ah q3,ah q5]
    go_wp2_with fail
    go_big_quiet (fail)
    go_wp2;go_end0;refine⟨rfl,.slice bt 0 ct,?_,hBB _ _,by cases bt<;>rfl⟩;rw[HM.out,HX.out];exact J0 3 _
