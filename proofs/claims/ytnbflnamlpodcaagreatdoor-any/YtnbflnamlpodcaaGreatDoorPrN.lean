import Derived.Test.YtnbflnamlpodcaaGreatDoorPlB
set_option maxHeartbeats 4000000
set_option maxRecDepth 100000
namespace Go.Proofs.Y
theorem IL{u:List UInt8}{F:Int}{m:Nat}:Ob u F=some m↔m<u.length/\(F<=(m:Int)/\sH u m≠0)/\∀j,j<m->F<=(j:Int)->sH u j=0:=by
 unfold Ob;rw[nO];constructor
 .rintro⟨h1,h2,h3⟩;refine⟨iT,gG,λj hj hF=>?_⟩;have:=h3 j hj;simp only[an0,pX,not_and,nU]at this;exact this hF
 .rintro⟨h1,h2,h3⟩;refine⟨iT,gG,λj hj=>?_⟩;simp only[an0,pX,not_and,nU];exact h3 j hj
theorem C9{u:List UInt8}{F:Int}:Ob u F=none↔∀m,m<u.length->F<=(m:Int)->sH u m=0:=by
 unfold Ob;rw[nP];constructor
 .intro h m hm hF;have:=h m (by simpa using hm);simp only[gU,not_and,nU]at this;exact this hF
 .intro h m hm;simp only[gU,not_and,nU];exact h m (by simpa using hm)
theorem Uk{en:Int}:∀{p:List UInt8}{a m:Nat},(∀j,j<p.length->en<=((m+j:Nat):Int)->sH p j=0)->D9 en a m p=none
 |[],_,_,_=>rfl
 |b::p,a,m,h=>by
  have h0:(m:Int)<en\/b.toNat=0:=by
   rcases mf (m:Int) en with x|x
   .exact .inl x
   .exact .inr (h 0 ai x)
  unfold D9;rw[aj h0];refine Uk (λj hj hx=>?_);have:=h (j+1) iR ae;rwa[FI]at this
theorem Ul{en:Int}:∀{p:List UInt8}{a m:Nat}(i:Nat),i<p.length->en<=((m+i:Nat):Int)->sH p i≠0->(∀j,j<i->en<=((m+j:Nat):Int)->sH p j=0)->D9 en a m p=some (8,a+i)
 |[],_,_,_,h,_,_,_=>by simp at h
 |b::p,a,m,0,_,h2,h3,_=>by
  unfold D9
  have:¬((m:Int)<en\/b.toNat=0):=by
   rintro(x|x)
   .omega
   .exact h3 x
  rw[ah this];rfl
 |b::p,a,m,i+1,h1,h2,h3,h4=>by
  have h0:(m:Int)<en\/b.toNat=0:=by
   rcases mf (m:Int) en with x|x
   .exact .inl x
   .exact .inr (h4 0 ae x)
  unfold D9;rw[aj h0];rw[Ul (p:=p) (a:=a+1) (m:=m+1) i gG ae (by rwa[FI]at h3) (λj hj hx=>?_),show a+1+i=a+(i+1)by omega];have:=h4 (j+1) ae ae;rwa[FI]at this
theorem alR{k i tt cl a:Nat}{u:List UInt8}(hu:cl+u.length<=sF k tt):(if decide (i<k)then D9 ((tt:Int)-((i*sF k tt:Nat):Int)) a cl u else none)=(Ob u (zq k i tt-(cl:Int))).map (λm=>(8,a+m)):=by
 by_cases hik:i<k
 .rw[ik hik,aj rfl];have hU:zq k i tt=max 0 (min (sF k tt:Int) ((tt:Int)-((i*sF k tt:Nat):Int))):=by unfold zq;rw[ah ae]
  rw[hU];generalize((tt:Int)-((i*sF k tt:Nat):Int))=en;generalize sF k tt=L at*;cases hp:Ob u (max 0 (min (L:Int) en)-(cl:Int))with
  |none=>
   rw[C9]at hp;rw[Uk (λj hj hx=>hp j hj ae)];rfl
  |some m=>
   rw[IL]at hp;obtain⟨h1,⟨h2,h3⟩,h4⟩:=hp;rw[Ul m h1 ae h3 (λj hj hx=>h4 j hj ae)];rfl
 .rw[dO hik,ah ai];have hU:zq k i tt=(sF k tt:Int):=by unfold zq;rw[aj ae]
  rw[hU]
  have:Ob u ((sF k tt:Int)-(cl:Int))=none:=by rw[C9];intro m hm hF;omega
  rw[this];rfl
theorem abo{s:St}{Z t:List UInt8}(h0:s.nx=2)(hm:Man s Z)(h1:s.qx.length<s.ln)(hc:1<=s.c)(f:Nat)(hf:s.ln<=f+s.qx.length)(he:Ox s Z s.ln (32+s.m+8) []=Ox s Z f s.pl s.qx)(hA:At Z s.pl t)(ht:t.length<=s.sz):
  (∀e,BD s t=.error e->(e.1=4->Z.length=s.pl+t.length)->qP Z=.error e)/\
  (∀s',BD s t=.ok s'->t.length=s.sz/\Man s' Z/\s'.nx=2/\s'.pl=s.pl/\s'.ln=s.ln/\s'.qx.length<=s'.ln/\∃f',s.ln<=f'+s'.qx.length/\Ox s' Z s'.ln (32+s'.m+8) []=Ox s' Z f' (s.pl+t.length) s'.qx):=by
 have hz:=sz2 h0;obtain⟨f,rfl⟩:∃g,f=g+1:=⟨f-1,ae⟩
 have hstep:Ox s Z (f+1) s.pl s.qx=match yH Z s.pl (min (s.ln-s.qx.length) s.c)with
   |some e=>.error e
   |none=>match(if decide (s.i<s.k)then D9 ((Ai s.zs:Int)-((s.i*lengthS s.k s.zs:Nat):Int)) s.pl s.qx.length (part Z s.pl (min (s.ln-s.qx.length) s.c))else none)with
    |some e=>.error e
    |none=>Ox s Z f (s.pl+min (s.ln-s.qx.length) s.c+8) (s.qx++part Z s.pl (min (s.ln-s.qx.length) s.c)):=by
  unfold Ox;rw[xh,ah ae]
  all_goals rfl
 have hts:Ai s.zs=s.tt:=by unfold Ai;rw[aj hm.small,hm.tt]
 have hlS:lengthS s.k s.zs=sF s.k s.tt:=by rw[xM hm.small,hm.tt]
 rw[Nat.min_comm]at hz;obtain⟨q,eq⟩:∃q,min (s.ln-s.qx.length) s.c=q:=⟨_,rfl⟩;rw[eq]at hz hstep;have hq1:1<=q:=ae;have hq2:s.qx.length+q<=s.ln:=ae;unfold BD;cases hs:xx s t with
 |some x=>
  refine⟨λe hx h4=>?_,λs' hx=>jQ⟩;cases hx;obtain⟨h5,_⟩:=MH hA hz ht hs (λp hp=>aoQ);refine Fb hm ?_;rw[he,hstep,h5]
 |none=>
  obtain⟨h5,h6⟩:=MH hA hz ht hs (λp hp=>by cases hp);have hl:=h6 rfl;have hP:part Z s.pl q=part t 0 q:=hA.cut (j:=0) ae;have hPl:(part t 0 q).length=q:=qE ae;rw[h5,hts,hlS,hP]at hstep;simp only at hstep;rw[alR (u:=part t 0 q) (by rw[hPl,<-hlS,<-hm.long];omega)]at hstep;simp only;rw[hl,f_];cases hp:Ob (part t 0 q) (zq s.k s.i s.tt-(s.qx.length:Int))with
  |some m=>
   refine⟨λe hx _=>?_,λs' hx=>jQ⟩;cases hx;refine Fb hm ?_;rw[he,hstep,hp];rfl
  |none=>
   refine⟨λe hx=>jQ,λs' hx=>?_⟩;cases hx;refine⟨ae,⟨⟨hm.head.ok,hm.head.k,hm.head.n,hm.head.i,hm.head.c,hm.head.m,hm.head.ln⟩,hm.names,hm.long,hm.tt,hm.small⟩,h0,rfl,rfl,?_,f,?_,?_⟩
   .simp only[aQ];rw[hPl];exact hq2
   .simp only[aQ];rw[hPl];omega
   .rw[hp]at hstep;have:Ox s Z s.ln (32+s.m+8) []=Ox s Z f (s.pl+q+8) (s.qx++part t 0 q):=by rw[he,hstep];rfl
    unfold Ox at this⊢;rw[<-dB];exact this
theorem afX{s:St}{Z t:List UInt8}(h0:s.nx=3)(hm:Man s Z)(he:Ox s Z s.ln (32+s.m+8) []=.ok (s.qx,s.pl))(hA:At Z s.pl t)(ht:t.length<=s.sz):
  (∀e,FH s t=.error e->(e.1=4->Z.length=s.pl+t.length)->qP Z=.error e)/\(∀s',FH s t=.ok s'->t.length=4/\s'=s/\Ah Z s.pl t_=none):=by
 have hz:=sz3 h0;unfold FH;cases hb:zV t t_ with
 |some i=>
  refine⟨λe hx _=>?_,λs' hx=>jQ⟩;cases hx;refine Du hm he ?_;rw[hA.X9 hb];rfl
 |none=>
  simp only;by_cases q:t.length<s.sz
  .rw[aj q];refine⟨λe hx h4=>?_,λs' hx=>jQ⟩;cases hx;have hZ:=h4 rfl;refine Du hm he ?_;rw[hA.Uh hb (by simp[t_];omega) hZ,hZ];rfl
  .rw[ah q];refine⟨λe hx=>jQ,λs' hx=>?_⟩;cases hx;exact⟨ae,rfl,hA.KJ hb (by simp[t_];omega)⟩
theorem Head.facts{s:St}{Z:List UInt8}(hh:Head s Z):1<=s.k/\s.k<=128/\s.k<=s.n/\s.n<=128/\s.i<s.n/\1<=s.c/\s.c<=65536/\4<=s.m/\s.m<=300000/\s.ln<=65536:=by
 have h2:=hh.ok;unfold Dx at h2;split at h2
 .cases h2
 .have:=IQ h2;rw[hh.k,hh.n,hh.i,hh.c,hh.m,hh.ln];omega
theorem X_{s:St}{Z t:List UInt8}(hG:Good s Z)(h4:s.nx≠4)(hA:At Z s.pl t)(ht:t.length<=s.sz){e:Nat×Nat}(h:ui s t=.error e)(hs:e.1=4->Z.length=s.pl+t.length):qP Z=.error e:=by
 unfold ui at h;cases hG with
 |head h0 h1 h2=>rw[aj h0]at h;exact Sj ((afR h0 h1 h2 hA ht).1 e h hs)
 |Lj h0 h1 h2 hh=>rw[ah ae,aj h0]at h;exact(aiC h0 h1 hh hA ht).1 e h hs
 |frame h0 hm h1 f hf he=>rw[ah ae,ah ae,aj h0]at h;exact(abo h0 hm h1 hm.head.facts.2.2.2.2.2.1 f hf he hA ht).1 e h hs
 |tail h0 hm h1 he=>rw[ah ae,ah ae,ah ae]at h;exact(afX h0 hm he hA ht).1 e h hs
 |done h0=>exact absurd h0 h4
theorem abp{s s':St}{Z t:List UInt8}(hG:Good s Z)(h4:s.nx≠4)(hA:At Z s.pl t)(ht:t.length<=s.sz)(h:ui s t=.ok s'):t.length=s.sz/\Good (rQ s' t) Z/\s'.pl=s.pl/\s'.nx=s.nx:=by
 unfold ui at h;cases hG with
 |head h0 h1 h2=>
  rw[aj h0]at h;obtain⟨a1,a2,a3,a4,a5⟩:=(afR h0 h1 h2 hA ht).2 s' h;refine⟨by rw[sz0 h0];omega,?_,ae,ae⟩;refine .Lj ?_ ?_ a3 ⟨a2.ok,a2.k,a2.n,a2.i,a2.c,a2.m,a2.ln⟩
  .simp only[rQ,vP];rw[aj a4]
  .simp only[rQ];omega
 |Lj h0 h1 h2 hh=>
  rw[ah ae,aj h0]at h;obtain⟨a1,a2,a3,a4,a5,a6⟩:=(aiC h0 h1 hh hA ht).2 s' h;refine⟨by rw[sz1 h0];omega,?_,ae,ae⟩;have hM:Man (rQ s' t) Z:=⟨⟨a2.head.ok,a2.head.k,a2.head.n,a2.head.i,a2.head.c,a2.head.m,a2.head.ln⟩,a2.names,a2.long,a2.tt,a2.small⟩;have hpl:(rQ s' t).pl=32+(rQ s' t).m+8:=by simp only[rQ];omega
  have wF:(rQ s' t).qx=[]:=a3;have hln:(rQ s' t).ln=s'.ln:=rfl;by_cases q:0<s'.ln
  .refine .frame ?_ hM (by rw[wF,hln];simpa using q) s'.ln (by rw[hln];omega) (by rw[hpl,wF,hln]);simp only[rQ,vP];rw[ah ae,ah ae,aj (by rw[a3];simpa using q)]
  .refine .tail ?_ hM (by rw[wF,hln];simp;omega) ?_
   .simp only[rQ,vP];rw[ah ae,ah ae,ah (by rw[a3];simpa using q)]
   .rw[hpl,wF,hln,show s'.ln=0 by omega];unfold Ox;rw[xh]
 |frame h0 hm h1 f hf he=>
  rw[ah ae,ah ae,aj h0]at h;obtain⟨a1,a2,a3,a4,a5,a6,f',a7,a8⟩:=(abo h0 hm h1 hm.head.facts.2.2.2.2.2.1 f hf he hA ht).2 s' h;refine⟨a1,?_,a4,ae⟩;have hM:Man (rQ s' t) Z:=⟨⟨a2.head.ok,a2.head.k,a2.head.n,a2.head.i,a2.head.c,a2.head.m,a2.head.ln⟩,a2.names,a2.long,a2.tt,a2.small⟩
  have h9:Ox (rQ s' t) Z (rQ s' t).ln (32+(rQ s' t).m+8) []=Ox (rQ s' t) Z f' (rQ s' t).pl (rQ s' t).qx:=by
   have e9:(rQ s' t).pl=s.pl+t.length:=by simp only[rQ];omega
   rw[e9];exact a8
  by_cases q:s'.qx.length<s'.ln
  .refine .frame ?_ hM q f' (by show s'.ln<=f'+s'.qx.length;omega) h9;simp only[rQ,vP];rw[ah ae,ah ae,aj q]
  .refine .tail ?_ hM (by show s'.ln=s'.qx.length;omega) ?_
   .simp only[rQ,vP];rw[ah ae,ah ae,ah q]
   .rw[h9];unfold Ox;cases f' with
    |zero=>rw[xh]
    |succ f'=>rw[xh,aj (by show s'.ln<=s'.qx.length;omega)]
 |tail h0 hm h1 he=>
  rw[ah ae,ah ae,ah ae]at h;obtain⟨a1,rfl,a3⟩:=(afX h0 hm he hA ht).2 s' h;refine⟨by rw[sz3 h0];omega,?_,rfl,rfl⟩;refine .done ?_ ⟨⟨hm.head.ok,hm.head.k,hm.head.n,hm.head.i,hm.head.c,hm.head.m,hm.head.ln⟩,hm.names,hm.long,hm.tt,hm.small⟩ h1 s'.pl ?_ he a3
  .simp only[rQ,vP];rw[ah ae,aj h0]
  .simp only[rQ];omega
 |done h0=>exact absurd h0 h4
def St.shd(s:St):vH:=⟨s.k,s.n,s.i,s.c,s.ns,s.zs,s.qx⟩
theorem Ya{s:St}{Z:List UInt8}(hG:Good s Z)(h4:s.nx=4):qP Z=if Z.length<=s.pl then .ok s.shd else .error (9,s.pl):=by
 cases hG with
 |done h0 hm h1 a ha he hx=>
  by_cases q:Z.length<=s.pl
  .rw[aj q,<-show qP Z=.ok s.shd from VE hm he (by rw[hx];simp only[Ld,xK];rw[aj az])]
  .rw[ah q,ha];exact Du hm he (by rw[hx];simp only[Ld,xK];rw[ah az])
 |head h0=>omega
 |Lj h0=>omega
 |frame h0=>omega
 |tail h0=>omega
theorem Good.bounds{s:St}{Z:List UInt8}(hG:Good s Z):s.nx<=4/\(s.nx=0\/1<=s.k/\s.k<=128/\s.k<=s.n/\s.n<=128/\s.i<s.n/\1<=s.c/\s.c<=65536/\4<=s.m/\s.m<=300000/\s.ln<=65536)/\(s.nx<=1->s.qx=[])/\(s.nx=2->s.qx.length<s.ln)/\(2<=s.nx->s.tt<=65536/\s.qx.length<=s.ln):=by
 cases hG with
 |head h0 h1 h2=>exact⟨ae,.inl h0,λ_=>h2,ae,ae⟩
 |Lj h0 h1 h2 hh=>exact⟨ae,.inr hh.facts,λ_=>h2,ae,ae⟩
 |frame h0 hm h1 f hf he=>exact⟨ae,.inr hm.head.facts,ae,λ_=>h1,λ_=>⟨aoA,ae⟩⟩
 |tail h0 hm h1 he=>exact⟨ae,.inr hm.head.facts,ae,ae,λ_=>⟨aoA,ae⟩⟩
 |done h0 hm h1=>exact⟨ae,.inr hm.head.facts,ae,ae,λ_=>⟨aoA,ae⟩⟩
end Go.Proofs.Y
namespace Go.Proofs.Y
open Go.RowKit Go.Deep
def St.rd(s:St)(vN vS vC vT vF:Value):Rd:=⟨s.k,s.n,s.i,s.c,vN,vS,vC,s.m,s.ln,s.tt,s.nx,s.pl,vT,vF⟩
structure RI(B:Nat)(w:World)(rb:Nat)(s:St)(t:List UInt8)(vN vS vC vT:Value):Prop where
 rd:wH w rb (s.rd vN vS vC vT .nilIface)
 on:w.ownsRow B 9 1 vN s.ns.length (AB s.ns)
 os:w.ownsRow B 3 1 vS s.zs.length (yh s.zs)
 oc:OwnB B w vC s.qx
 ot:OwnB B w vT t
 ap:ML vC vT
 size:B<=w.heap.size
def Mine(rb:Nat)(vC vT:Value)(k:Nat):Prop:=k=rb\/vC.ownBlock=some k\/vT.ownBlock=some k
structure Bd(s:St):Prop where
 m:s.m<=300000
 c:s.c<=65536
 ln:s.ln<=65536
 qx:s.qx.length<=s.ln
 nx:s.nx<=4
 pl:s.pl<=1000000
theorem OwnB.lies{B:Nat}{w:World}{v:Value}{l:List UInt8}(h:OwnB B w v l):Lies w v (rF l):=by
 have h2:=h;unfold OwnB at h;rcases h.2 with⟨e,h0⟩|⟨g,c,cur,e,hg,hh,hc,_⟩
 .subst e;have:l=[]:=kD.1 h0;subst this;exact⟨none,0,rfl,dY,λj u hj=>mM⟩
 .refine⟨some ⟨g,0,none⟩,c,by rw[e,rH],by rw[rH];exact hc,λj u hj=>⟨g,0,rfl,?_⟩⟩;obtain⟨hj1,rfl⟩:=QI hj;rw[e]at h2;have:=World.ownsRow.cellAt h2 j ae;rw[aS,this];exact vJ hj1
theorem OwnB.slice{B:Nat}{w:World}{v:Value}{l:List UInt8}(h:OwnB B w v l):∃ba cap,v=.slice ba l.length cap/\l.length<=cap:=by obtain⟨ba,cap,e,hc,_⟩:=h.lies;rw[rH]at e hc;exact⟨ba,cap,e,hc⟩
theorem QJ(a:Option Addr)(len cap:Nat)(N:Int)(n:Nat)(hN:N=n)(hn:n<=cap):∀w,(Instr.slice 34 (.slice a len cap) none (some (.int .i64 N)) none).run Tryz.prog w=.ok (.slice a n cap) w:=by
 intro w;subst hN;have hu:Tryz.prog.underlying 34=some (.slice (Tryz.prog.elem 34)):=Tryz.underlying34;rw[run_slice_h w 34 _ _ _ hu .i64 n ae ae]
 have hsz:(sizeOf (Tryz.prog.elem 34)).run Tryz.prog w=.ok 1 w:=by simp[sizeOf,go_sem];rfl
 rw[hsz];simp only[Result.andThen,sliced,gy,ja];cases a with
 |none=>simp
 |some ad=>simp[Addr.add]
theorem Yb(a:Option Addr)(len cap:Nat)(N:Int)(n:Nat)(hN:N=n)(hn:n<=len):∀w,(Instr.slice 34 (.slice a len cap) (some (.int .i64 N)) none none).run Tryz.prog w=.ok (.slice (if cap=n then a else a.map (·.add n)) (len-n) (cap-n)) w:=by
 subst hN;have hu:Tryz.prog.underlying 34=some (.slice (Tryz.prog.elem 34)):=Tryz.underlying34
 have hsz:∀w,(sizeOf (Tryz.prog.elem 34)).run Tryz.prog w=.ok 1 w:=λw=>by simp[sizeOf,go_sem];rfl
 intro w;rw[run_slice_l w 34 _ _ _ hu .i64 n ae ae,hsz];simp only[Result.andThen,gy,sliced,ja]
def Pt(w:World)(M:Nat->Prop)(v:Value)(p:List UInt8):Prop:=
 (v=.slice none 0 0/\p=[])\/∃ad cap,v=.slice (some ad) p.length cap/\p.length<=cap/\(0<p.length->¬M ad.block)/\∀j,j<p.length->w.cell? (ad.add j)=some (.int .u8 (sH p j:Int))
theorem add_block(ad:Addr)(j:Nat):(ad.add j).block=ad.block:=by unfold Addr.add;split<;>rfl
theorem add_add(ad:Addr)(i j:Nat):(ad.add i).add j=ad.add (i+j):=by
 unfold Addr.add;by_cases h1:i=0
 .simp[h1]
 .by_cases h2:j=0
  .simp[h2]
  .have:¬i+j=0:=ae;simp only[h1,h2,this,aU,dB]
theorem Pt.cut{w:World}{M:Nat->Prop}{ad:Addr}{cap n:Nat}{p:List UInt8}(h1:p.length<=cap)(h2:0<p.length->¬M ad.block)(h3:∀j,j<p.length->w.cell? (ad.add j)=some (.int .u8 (sH p j:Int)))(hn:n<=p.length):Pt w M (.slice (if cap=n then some ad else(some ad).map (·.add n)) (p.length-n) (cap-n)) (p.drop n):=by
 right
 have hl:(p.drop n).length=p.length-n:=ai;by_cases q:cap=n
 .rw[aj q];exact⟨ad,_,by rw[hl],mQ,λh=>h2 ae,λj hj=>by rw[hl]at hj;omega⟩
 .rw[ah q];refine⟨ad.add n,_,by rw[hl];rfl,mQ,λh=>by rw[add_block];exact h2 ae,λj hj=>?_⟩;rw[hl]at hj;rw[add_add,h3 (n+j) ae];simp[sH]
theorem Pt.later{w w':World}{M M' S:Nat->Prop}{v:Value}{p:List UInt8}(h:Pt w M v p)(hb:But w.heap.size S w w')(hS:∀k,S k->M k)(hM:∀k,k<w.heap.size->M' k->M k):Pt w' M' v p:=by
 rcases h with h|⟨ad,cap,rfl,h1,h2,h3⟩
 .exact .inl h
 .right
  refine⟨ad,cap,rfl,h1,λh=>?_,λj hj=>?_⟩
  .have hlt:(ad.add 0).block<w.heap.size:=cell_lt (h3 0 h);rw[add_block]at hlt;exact λx=>h2 h (hM _ hlt x)
  .have hlt:(ad.add j).block<w.heap.size:=cell_lt (h3 j hj);have hnS:¬S (ad.add j).block:=λx=>h2 ae (by rw[add_block]at x;exact hS _ x)
   rw[hb.cell hlt hnS];exact h3 j hj
theorem G6{P:Program}{ops:Array Oper}{o:Oper}{a:Act}{w:World}{K:Act->World->Prop}{Q:Exit->Act->World->Prop}{E:Prop}
  (hg:o.guard=none) (s x:Operand) (t:TypeId) (hop:o.op=Op.call {callee:=Callee.builtin Builtin.append,args:=#[s,x],argTypes:=#[t,t]})
  (base:Nat) (e:TypeId) (i:TypeInfo) (z:Value) (size bytes:Nat) (h1:P.underlying t=some (.slice e)) (h2:P.info? e=some i) (h3:i.zero=some z) (h4:i.size=size) (h5:i.bytes=bytes) (h6:z.cells.size=size) (h7:0<size)
  (v:Value) (n:Nat) (xs:List Value) (hs:a.eval s=v) (hown:w.ownsRow base e size v n xs)
  (ad:Addr) (m c:Nat) (news:List Value) (hx:a.eval x=.slice (some ad) m c) (hn:news.length=m*size) (hc:∀j u,news[j]?=some u->w.cell? (ad.add j)=some u) (h1c:∀u∈news,u.oneCell'=true)
  (b1:n+m<=maxLen) (b2:(n+m)*bytes<=140737488355328) (hbase:base<=w.heap.size)
  (hK:∀v' w',w'.ownsRow base e size v' (n+m) (xs++news)->w.grownBy w' v.ownBlock->(v'.ownBlock=v.ownBlock\/v'.ownBlock=some w.heap.size)->K (a.put o.dst v') w'):
  if Region.wanted o (yielded ops a.tmps)=true then Oper.wp P o a w K Q else E:=by
 have hw:Region.wanted o (yielded ops a.tmps)=true:=aoj;rw[aj hw];obtain⟨v',w',hr,r1,r2,_,r4⟩:=run_append_own_at (P:=P) w base t o.type e i z size bytes h1 h2 h3 h4 h5 h6 h7 v n xs hown ad m c news hn hc h1c b1 b2 hbase;unfold Oper.wp;exact arS
theorem Oy{P:Program}{ops:Array Oper}{o:Oper}{a:Act}{w:World}{K:Act->World->Prop}{Q:Exit->Act->World->Prop}{E:Prop}
  (hg:o.guard=none) (s x:Operand) (t:TypeId) (hop:o.op=Op.call {callee:=Callee.builtin Builtin.append,args:=#[s,x],argTypes:=#[t,t]})
  (base:Nat) (e:TypeId) (i:TypeInfo) (size:Nat) (h1:P.underlying t=some (.slice e)) (h2:P.info? e=some i)
  (v:Value) (n:Nat) (xs:List Value) (hs:a.eval s=v) (hown:w.ownsRow base e size v n xs) (hx:a.eval x=.slice none 0 0)
  (hK:K (a.put o.dst v) w):
  if Region.wanted o (yielded ops a.tmps)=true then Oper.wp P o a w K Q else E:=by
 have hw:Region.wanted o (yielded ops a.tmps)=true:=aoj;rw[aj hw];have hr:=run_append_owned_none (P:=P) (w:=w) base t o.type e i size h1 h2 v n xs hown;unfold Oper.wp;simp[execOp,hop,resolve,invoke,builtin,hs,hx,hr,Result.andThen];exact hK
theorem H8{w:World}{B e n:Nat}{v:Value}{xs:List Value}(h:w.ownsRow B e 1 v n xs){g:Nat}(hg:v.ownBlock=some g):∃cur,w.heap[g]?=some (.cells cur e (0,0)):=by
 rcases h.2 with⟨rfl,_⟩|⟨g',cap,cur,rfl,_,hh,_⟩
 .cases hg
 .cases hg;exact⟨cur,hh⟩
theorem tq{w:World}{B e n rb:Nat}{v:Value}{xs:List Value}{r:Rd}(h:w.ownsRow B e 1 v n xs)(hr:wH w rb r)(he:e≠122):v.ownBlock≠some rb:=by intro hg;obtain⟨cur,hh⟩:=H8 h hg;have hr':w.heap[rb]?=some (.cells r.cells.toArray 122 (0,0)):=hr;rw[hr']at hh;cases hh;exact he rfl
theorem ER{w:World}{B e e' n n':Nat}{v v':Value}{xs xs':List Value}(h:w.ownsRow B e 1 v n xs)(h':w.ownsRow B e' 1 v' n' xs')(he:e≠e'):ML v v':=by intro g hg hg';obtain⟨cur,hh⟩:=H8 h hg;obtain⟨cur',hh'⟩:=H8 h' hg';rw[hh]at hh';cases hh';exact he rfl
theorem wH.acY{w:World}{rb:Nat}{s:St}{vN vS vC vT vF:Value}(h:wH w rb (s.rd vN vS vC vT vF))(v:Value):wH (w.setCell ⟨rb,12,none⟩ v) rb (s.rd vN vS vC v vF):=qf.set h 12 v
theorem tZ{w:World}{B e n rb i:Nat}{v u:Value}{xs:List Value}(h:w.ownsRow B e 1 v n xs)(hr:v.ownBlock≠some rb):(w.setCell ⟨rb,i,none⟩ u).ownsRow B e 1 v n xs:=
 uz h (λg hg=>bG _ _ _ _ (λe=>hr (by rw[hg,e])))
theorem RI.text{B rb:Nat}{w w1:World}{s:St}{t x:List UInt8}{vN vS vC vT v1:Value}(I:RI B w rb s t vN vS vC vT)(h1:OwnB B w1 v1 (t++x))(hg:w.grownBy w1 vT.ownBlock)(hk:v1.ownBlock=vT.ownBlock\/v1.ownBlock=some w.heap.size):
  RI B (w1.setCell ⟨rb,12,none⟩ v1) rb s (t++x) vN vS vC v1/\But w.heap.size (Mine rb vC vT) w (w1.setCell ⟨rb,12,none⟩ v1)/\w1.cell? ⟨rb,12,none⟩=some vT/\w1.frozen? ⟨rb,12,none⟩=false:=by
 have akh:=qf.lt I.rd;have hT:=tq I.ot I.rd au
 have hR1:wH w1 rb (s.rd vN vS vC vT .nilIface):=by exact ara
 have key:∀{e n:Nat}{v:Value}{xs:List Value},w.ownsRow B e 1 v n xs->ML v vT->w1.ownsRow B e 1 v n xs:=λh ha=>uz h (λg hg'=>hg.block g (h.lt g hg').2 (λe=>ha g hg' e.symm))
 have hN1:=key I.on (ER I.on I.ot au);have hS1:=key I.os (ER I.os I.ot au);have hC1:=key I.oc I.ap;refine⟨⟨hR1.acY v1,tZ hN1 (tq hN1 hR1 au),tZ hS1 (tq hS1 hR1 au),tZ hC1 (tq hC1 hR1 au),tZ h1 (tq h1 hR1 au),?_,?_⟩,?_,qf.cell hR1 (i:=12) rfl,qf.frozen hR1 12⟩
 .intro g hg1 hg2;rcases hk with e|e
  .exact I.ap g hg1 (e▸hg2)
  .have h2:=(iH I.oc g hg1).2;rw[e]at hg2;cases hg2;omega
 .have:=I.size;have:=hg.size;simp;omega
 .exact But.setCell (But.mono (But.Yc hg) (ak _) (λk hk=>.inr (.inr hk))) (p:=⟨rb,12,none⟩) (.inr (.inl rfl)) v1
theorem ah1(a b:List UInt8):rF a++rF b=rF (a++b):=dY
theorem St.Ui{s:St}(hb:Bd s):s.sz<=400000:=by
 unfold St.sz wY;have:=hb.m;have:=hb.c;have:=hb.ln;split
 .omega
 .split
  .omega
  .split
   .omega
   .omega
theorem RI.drewN{B rb:Nat}{w:World}{s:St}{t:List UInt8}{vN vS vC vT:Value}(I:RI B w rb s t vN vS vC vT)(j:Nat):RI B (w.drewN j) rb s t vN vS vC vT:=⟨I.rd,I.on,I.os,I.oc,I.ot,I.ap,I.size⟩
theorem RI.drew{B rb:Nat}{w:World}{s:St}{t:List UInt8}{vN vS vC vT:Value}(I:RI B w rb s t vN vS vC vT):RI B w.drew rb s t vN vS vC vT:=⟨I.rd,I.on,I.os,I.oc,I.ot,I.ap,I.size⟩
theorem VL{B n:Nat}{w:World}{v:Value}{t x:List UInt8}(h:w.ownsRow B 5 1 v n (rF t++rF x)):OwnB B w v (t++x):=by rw[ah1]at h;exact OwnB.of h
theorem Mine.fresh{rb H k:Nat}{vC vT v':Value}(hk:v'.ownBlock=vT.ownBlock\/v'.ownBlock=some H)(hlt:k<H)(h:Mine rb vC v' k):Mine rb vC vT k:=by
 rcases h with h|h|h
 .exact .inl h
 .exact aqj
 .rcases hk with e|e
  .exact .inr (.inr (e▸h))
  .rw[e]at h;cases h;omega
theorem Pt.Um{w w':World}{rb cp n:Nat}{ad:Addr}{vC vT v':Value}{p:List UInt8}(hcp:p.length<=cp)(hM:0<p.length->¬Mine rb vC vT ad.block)(hcell:∀j,j<p.length->w.cell? (ad.add j)=some (.int .u8 (sH p j:Int)))(hn:n<=p.length)(hb:But w.heap.size (Mine rb vC vT) w w')(hk:v'.ownBlock=vT.ownBlock\/v'.ownBlock=some w.heap.size):
  Pt w' (Mine rb vC v') (.slice (if cp=n then some ad else(some ad).map (·.add n)) (p.length-n) (cp-n)) (p.drop n):=by
 have h0:Pt w (Mine rb vC vT) (.slice (some ad) p.length cp) p:=.inr ⟨ad,cp,rfl,hcp,hM,hcell⟩;have h1:=h0.later hb (λ_ x=>x) (λk hk' x=>Mine.fresh hk hk' x);rcases h1 with⟨e,_⟩|⟨ad',cp',e,h2,h3,h4⟩
 .cases e
 .injection e with e1 e2 e3;injection e1 with e1;subst e1 e3;exact Pt.cut h2 h3 h4 hn
def QK(B:Nat)(w:World)(rb:Nat)(s:St)(t p:List UInt8)(vN vS vC vT:Value)(q:Ending)(w':World):Prop:=
 ∃v' AP,q=.returned v'/\Pt w' (Mine rb vC AP) v' (p.drop (s.sz-t.length))/\RI B w' rb s (t++p.take (s.sz-t.length)) vN vS vC AP/\But w.heap.size (Mine rb vC vT) w w'/\(AP.ownBlock=vT.ownBlock\/∃g,AP.ownBlock=some g/\w.heap.size<=g)
section
variable (B rb:Nat)(s:St)(t p:List UInt8)(vN vS vC vT vp:Value)(hb:Bd s)(hnx:s.nx<=3)(ht:t.length<=s.sz)(hp:p.length<=4611686018427387904)(w:World)(I:RI B w rb s t vN vS vC vT)(hP:Pt w (Mine rb vC vT) vp p)
include hb hnx ht hp I hP in
theorem afY:Calls Tryz.prog 121 #[.pointer (some ⟨rb,0,none⟩),vp] w λq w'=>QK B w rb s t p vN vS vC vT q w':=by
 obtain⟨bc,cc,eC,hcc⟩:=I.oc.slice;obtain⟨bt,ct,eT,hct⟩:=I.ot.slice;subst eT;have KS:=λn=>size_any rb (s.rd vN vS vC (.slice bt t.length ct) .nilIface) bc s.qx.length cc eC lG lI lH hb.qx hnx (w.drewN n) I.rd
 have hsz:wY s.nx s.c s.m s.ln s.qx.length=s.sz:=rfl;simp only[St.rd,hsz]at KS;unfold QK;have hz:=St.Ui hb;obtain⟨z,ez⟩:∃z,s.sz=z:=⟨_,rfl⟩;rw[ez]at ht hz;simp only[ez]at KS⊢;have c12:w.cell? ⟨rb,12,none⟩=some (.slice bt t.length ct):=qf.cell I.rd (i:=12) rfl;have f12:=qf.frozen I.rd 12
 obtain⟨n,hn1,hn2⟩:∃n:Nat,((p.length:Int)<(z:Int)-(t.length:Int)/\n=p.length\/(z:Int)-(t.length:Int)<=(p.length:Int)/\n+t.length=z)/\n<=p.length:=by
  rcases aT p.length (z-t.length)with h|h
  .exact⟨p.length,.inl ⟨ae,rfl⟩,ak _⟩
  .exact⟨z-t.length,.inr ⟨ae,ae⟩,h⟩
 have hdrop:p.drop (z-t.length)=p.drop n:=by
  rcases hn1 with⟨h1,h2⟩|⟨h1,h2⟩
  .rw[nS ae,nS ae]
  .rw[show z-t.length=n by omega]
 have htake:p.take (z-t.length)=p.take n:=by
  rcases hn1 with⟨h1,h2⟩|⟨h1,h2⟩
  .rw[iJ ae,iJ ae]
  .rw[show z-t.length=n by omega]
 rw[hdrop,htake]
 have K:∀j,Calls Tryz.prog 129 #[.pointer (some ⟨rb,0,none⟩)] (w.drewN j) λq w'=>q=.returned (.int .i64 (z:Int))/\∃n,w'=w.drewN n:=λj=>
  (KS j).mono λq w' x=>⟨x.1,by obtain⟨i,hi⟩:=x.2;exact⟨j+i,aoB⟩⟩
 obtain⟨i0,hi0,hz0,hz1,hz2⟩:=bg Au;have htl:t.length<=400000:=ae;have hnz:n<=400000:=ae;have hw64:IntKind.i64.wrap ((z:Int)-(t.length:Int))=(z:Int)-(t.length:Int):=dQ _ ae;have hBs:=I.size;clear KS ez hsz hdrop htake;rcases hP with⟨rfl,rfl⟩|⟨ad,cp,rfl,hcp,hM,hcell⟩
 .obtain rfl:n=0:=by simpa using hn2
  have sh:=QJ none 0 0 0 0 rfl ae;have sl:=Yb none 0 0 0 0 rfl ae;simp only[aF]at sl;have hot:=I.ot;unfold OwnB at hot;have hq:(0:Int)<=(z:Int)-(t.length:Int):=ae;have hJ:∀j,But w.heap.size (Mine rb vC (.slice bt t.length ct)) w ((w.drewN j).setCell ⟨rb,12,none⟩ (.slice bt t.length ct)):=λj=>((But.refl w.heap.size _ w).drewN j).setCell (p:=⟨rb,12,none⟩) (.inr (.inl rfl)) _
  have JN:=λj=>RI.text (w1:=w.drewN j) (x:=[]) I (by have:=I.ot;rw[dC];exact this) ⟨rfl,rfl,rfl,ak _,λ_ _ _=>rfl⟩ (.inl rfl)
  clear hn1;rcases mf 0 ((z:Int)-(t.length:Int))with h1|h1
  all_goals
   try(have h1':(z:Int)-(t.length:Int)=0:=by omega)
   go_enter Tryz.func121,Tryz.ntmps121
   go_wp2_with fail
   go_big_quiet (first|(go_at_call 129;exact(K _).mono (λ_ _ h=>⟨h.1,h.2⟩)))
   go_wp2_with fail
   go_region_law ((refine Oy rfl _ _ 34 rfl B 5 i0 1 Tryz.underlying34 hi0 _ _ _ rfl pO rfl ?_))
   go_wp2;go_ret;exact⟨_,_,rfl,.inl ⟨rfl,rfl⟩,(JN _).1,hJ _,.inl rfl⟩
 .have sh:=QJ (some ad) p.length cp (n:Int) n rfl ae;have sl:=Yb (some ad) p.length cp (n:Int) n rfl hn2;obtain⟨ra,era⟩:∃ra,(if cp=n then some ad else(some ad).map (·.add n))=ra:=⟨_,rfl⟩;simp only[era]at sl;have htk:(p.take n).length=n:=az
  have hnews:∀j u,(rF (p.take n))[j]?=some u->w.cell? (ad.add j)=some u:=by intro j u hj;obtain⟨h1,rfl⟩:=QI hj;rw[htk]at h1;rw[hcell j ae];simp[sH,h1]
  have hot:=I.ot;unfold OwnB at hot;rcases hn1 with⟨h1,h2⟩|⟨h1,h2⟩
  .subst h2;go_enter Tryz.func121,Tryz.ntmps121
   go_wp2_with fail
   go_big_quiet (first|(go_at_call 129;exact(K _).mono (λ_ _ h=>⟨h.1,h.2⟩)))
   go_wp2_with fail
   go_region_law ((refine G6 rfl _ _ 34 rfl B 5 i0 (.int .u8 0) 1 1 Tryz.underlying34 hi0 hz0 hz1 hz2 rfl au _ _ _ rfl pO ad p.length cp (rF (p.take p.length)) rfl (by rw[rH,htk];omega) aoP (Cb _) bH ae (by exact hBs) ?_;intro v2 w2 hown2 hgrow2 hblk2;have ow:=VL hown2;obtain⟨b2,c2,rfl,hc2⟩:=ow.slice;obtain⟨J,hJ,x12,y12⟩:=RI.text ((I.drewN _).drew) ow hgrow2 hblk2))
   go_wp2;go_ret;have e2:(t++p.take p.length).length=t.length+p.length:=by rw[aQ,htk]
   rw[e2]at J hJ hblk2;have hJ':But w.heap.size (Mine rb vC (.slice bt t.length ct)) w _:=((But.refl w.heap.size _ w).drewN (nq+1)).trans hJ;have hpt:=Pt.Um hcp hM hcell hn2 hJ' hblk2;rw[era,jY]at hpt;exact aq8
  .have h3:(z:Int)-(t.length:Int)=(n:Int):=ae;have h1':(n:Int)<=(p.length:Int):=ae;clear h1 h2;go_enter Tryz.func121,Tryz.ntmps121
   go_wp2_with fail
   go_big_quiet (first|(go_at_call 129;exact(K _).mono (λ_ _ h=>⟨h.1,h.2⟩)))
   go_wp2_with fail
   go_region_law ((refine G6 rfl _ _ 34 rfl B 5 i0 (.int .u8 0) 1 1 Tryz.underlying34 hi0 hz0 hz1 hz2 rfl au _ _ _ rfl pO ad n cp (rF (p.take n)) rfl (by rw[rH,htk];omega) aoP (Cb _) bH ae (by exact hBs) ?_;intro v2 w2 hown2 hgrow2 hblk2;have ow:=VL hown2;obtain⟨b2,c2,rfl,hc2⟩:=ow.slice;obtain⟨J,hJ,x12,y12⟩:=RI.text ((I.drewN _).drew) ow hgrow2 hblk2))
   go_wp2;go_ret;have e2:(t++p.take n).length=t.length+n:=by rw[aQ,htk]
   rw[e2]at J hJ hblk2;have hJ':But w.heap.size (Mine rb vC (.slice bt t.length ct)) w _:=((But.refl w.heap.size _ w).drewN (nq+1)).trans hJ;have hpt:=Pt.Um hcp hM hcell hn2 hJ' hblk2;rw[era]at hpt;exact aq8
end
theorem OwnB.none{B:Nat}{w:World}{bt:Option Addr}{n ct:Nat}{l:List UInt8}(h:OwnB B w (.slice bt n ct) l):OwnB B w (.slice bt 0 ct) []:=by
 unfold OwnB at*;refine⟨dY,?_⟩;rcases h.2 with⟨e,h0⟩|⟨g,c,cur,e,hg,hh,hc,hm,hs,_⟩
 .cases e;exact .inl ⟨rfl,rfl⟩
 .cases e;exact .inr ⟨g,ct,cur,rfl,hg,hh,gV _,hm,hs,dY⟩
theorem RI.put{B rb i:Nat}{w:World}{s s':St}{t t':List UInt8}{vN vS vC vT AP u:Value}(I:RI B w rb s t vN vS vC vT)(h:(s.rd vN vS vC vT .nilIface).cells.set i u=(s'.rd vN vS vC AP .nilIface).cells)(h1:s'.ns=s.ns)(h2:s'.zs=s.zs)(h3:s'.qx=s.qx)(hT:OwnB B w AP t')(hk:AP.ownBlock=vT.ownBlock):RI B (w.setCell ⟨rb,i,none⟩ u) rb s' t' vN vS vC AP:=by
 refine⟨?_,?_,?_,?_,?_,?_,?_⟩
 .have:=qf.set I.rd i u;unfold wH;rw[<-h];exact this
 .rw[h1];exact tZ I.on (tq I.on I.rd au)
 .rw[h2];exact tZ I.os (tq I.os I.rd au)
 .rw[h3];exact tZ I.oc (tq I.oc I.rd au)
 .exact tZ hT (tq hT I.rd au)
 .intro g hg1 hg2;exact I.ap g hg1 (hk▸hg2)
 .have:=I.size;exact aqb
section
variable (B rb:Nat)(s:St)(t:List UInt8)(vN vS vC vT:Value)(hb:Bd s)(ht:t.length<=400000)(w:World)(I:RI B w rb s t vN vS vC vT)
def Yd(B:Nat)(w:World)(rb:Nat)(s:St)(t:List UInt8)(vN vS vC vT:Value)(q:Ending)(w':World):Prop:=
 q=.returned (.tuple #[])/\∃AP,RI B w' rb (rQ s t) [] vN vS vC AP/\But w.heap.size (· =rb) w w'/\AP.ownBlock=vT.ownBlock
include hb ht I in
theorem aap:Calls Tryz.prog 123 #[.pointer (some ⟨rb,0,none⟩)] w λq w'=>Yd B w rb s t vN vS vC vT q w':=by
 obtain⟨bc,cc,eC,hcc⟩:=I.oc.slice;obtain⟨bt,ct,eT,hct⟩:=I.ot.slice;subst eT;subst eC;have hpl:=hb.pl;have hln:=hb.ln;have c6:=qf.cell I.rd (i:=6) rfl;have c8:=qf.cell I.rd (i:=8) rfl;have c10:=qf.cell I.rd (i:=10) rfl;have c11:=qf.cell I.rd (i:=11) rfl;have c12:=qf.cell I.rd (i:=12) rfl;have f10:=qf.frozen I.rd 10;have f11:=qf.frozen I.rd 11;have f12:=qf.frozen I.rd 12;simp only[St.rd]at c6 c8 c10 c11 c12;have sh:=QJ bt t.length ct 0 0 rfl ae;have hnx:=hb.nx;obtain⟨nx,enx⟩:∃nx,s.nx=nx:=⟨_,rfl⟩;obtain⟨pl,R_⟩:∃pl,s.pl=pl:=⟨_,rfl⟩;obtain⟨ln,eln⟩:∃ln,s.ln=ln:=⟨_,rfl⟩;have hwr:IntKind.i64.wrap ((pl:Int)+(t.length:Int))=(pl:Int)+(t.length:Int):=dQ _ ae;rw[enx]at c10 hnx;rw[R_]at c11 hpl;rw[eln]at c8 hln;have I1:RI B (w.setCell ⟨rb,11,none⟩ (.int .i64 ((pl:Int)+(t.length:Int)))).drew rb {s with pl:=pl+t.length} t vN vS _ _:=(I.put (s':={s with pl:=pl+t.length}) (t':=t) rfl rfl rfl rfl I.ot rfl).drew;have hB1:But w.heap.size (· =rb) w (w.setCell ⟨rb,11,none⟩ (.int .i64 ((pl:Int)+(t.length:Int)))).drew:=((But.refl w.heap.size (· =rb) w).setCell (p:=⟨rb,11,none⟩) (.inr rfl) _).drew;have HM:Hid ((rQ s t)={s with pl:=pl+t.length,nx:=vP s}):=by show _=_;unfold rQ;rw[R_]
 go_enter Tryz.func123,Tryz.ntmps123
 go_wp2_with fail
 refine Ae 12 mixed ag ?_;simp only[anM,lX,anV,l_]
 repeat (first|go_big_quiet_skip|(go_big_quiet_want;go_big_quiet_op;go_big_quiet_on))
 refine wpQuiet_nil ?_
 go_upto_region 1 with(fail)
 clear c6 c8 c10 c11 c12 f10 f11 f12 I;generalize(w.setCell ⟨rb,11,none⟩ (.int .i64 ((pl:Int)+(t.length:Int)))).drew=w1 at I1 hB1⊢;have I2:RI B _ rb {s with pl:=pl+t.length} [] vN vS _ _:=I1.put (i:=12) (u:=.slice bt 0 ct) (s':={s with pl:=pl+t.length}) (t':=[]) (AP:=.slice bt 0 ct) rfl rfl rfl rfl I1.ot.none (by cases bt<;>rfl);have hB2:=hB1.setCell (p:=⟨rb,12,none⟩) (.inr rfl) (.slice bt 0 ct);have c12:=qf.cell I1.rd (i:=12) rfl;have f12:=qf.frozen I1.rd 12;simp only[St.rd]at c12
 go_upto_region 3 with(fail)
 clear c12 f12 I1 hB1;generalize w1.setCell ⟨rb,12,none⟩ (.slice bt 0 ct)=w2 at I2 hB2⊢;have c6:=qf.cell I2.rd (i:=6) rfl;have c8:=qf.cell I2.rd (i:=8) rfl;have c10:=qf.cell I2.rd (i:=10) rfl;have f10:=qf.frozen I2.rd 10;simp only[St.rd]at c6 c8 c10;rw[enx]at c10;rw[eln]at c8;have J0:∀(x j:Nat),RI B ((w2.drewN j).setCell ⟨rb,10,none⟩ (.int .i64 (x:Int))) rb {s with pl:=pl+t.length,nx:=x} [] vN vS _ _:=λx j=>(I2.drewN j).put (s':={s with pl:=pl+t.length,nx:=x}) (t':=[]) (AP:=.slice bt 0 ct) rfl rfl rfl rfl I2.ot rfl
 have hBB:∀(j:Nat)(u:Value),But w.heap.size (· =rb) w ((w2.drewN j).setCell ⟨rb,10,none⟩ u):=λj u=>(hB2.drewN j).setCell (p:=⟨rb,10,none⟩) (.inr rfl) u
 by_cases q0:nx=0
 .have HX:Hid (vP s=1):=by show _=_;unfold vP;rw[enx,aj q0]
  subst q0;go_wp2;go_end0;refine⟨rfl,.slice bt 0 ct,?_,hBB 0 _,by cases bt<;>rfl⟩;rw[HM.out,HX.out];exact J0 1 0
 .have q0':((nx:Int)==0)=false:=az;by_cases q3:nx=3
  .have HX:Hid (vP s=4):=by show _=_;unfold vP;rw[enx,ah q0,aj q3]
   subst q3;go_wp2;go_end0;refine⟨rfl,.slice bt 0 ct,?_,hBB 0 _,by cases bt<;>rfl⟩;rw[HM.out,HX.out];exact J0 4 0
  .have q3':((nx:Int)==3)=false:=az;by_cases q5:s.qx.length<ln
   .have HX:Hid (vP s=2):=by show _=_;unfold vP;rw[enx,eln,ah q0,ah q3,aj q5]
    go_wp2_with fail
    go_big_quiet (fail)
    go_wp2;go_end0;refine⟨rfl,.slice bt 0 ct,?_,hBB _ _,by cases bt<;>rfl⟩;rw[HM.out,HX.out];exact J0 2 _
   .have HX:Hid (vP s=3):=by show _=_;unfold vP;rw[enx,eln,ah q0,ah q3,ah q5]
    go_wp2_with fail
    go_big_quiet (fail)
    go_wp2;go_end0;refine⟨rfl,.slice bt 0 ct,?_,hBB _ _,by cases bt<;>rfl⟩;rw[HM.out,HX.out];exact J0 3 _
