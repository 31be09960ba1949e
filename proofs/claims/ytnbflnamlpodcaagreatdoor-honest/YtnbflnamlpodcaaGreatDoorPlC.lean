import Derived.Test.YtnbflnamlpodcaaGreatDoorTailQ
namespace Go.Proofs.Y
def At(Z:ak)(a:Nat)(t:ak):Prop:=a+t.length<=Z.length/\∀i,i<t.length->tZ Z (a+i)=tZ t i
theorem At.more{Z t:ak}{a:Nat}(h:At Z a t)(x:ak):At (Z++x) a t:=by refine⟨by simp;have:=h.1;omega,λi hi=>?_⟩;rw[<-h.2 i hi];have:=h.1;simp only[tZ,bH];rw[gV ag]
theorem anp{p q:ak}(hl:p.length=q.length)(h:∀i,i<p.length->tZ p i=tZ q i):p=q:=by apply avZ hl;intro i h1 h2;have:=h i h1;simp only[tZ,bH,cO h1,cO h2,aQ]at this;exact UInt8.toNat_inj.1 this
theorem At.num{Z t:ak}{a:Nat}(h:At Z a t):∀n j,j+n<=t.length->le Z (a+j) n=le t j n
 |0,_,_=>rfl
 |n+1,j,hj=>by show tZ Z (a+j)+256*le Z (a+j+1) n=tZ t j+256*le t (j+1) n;rw[h.2 j ag,dW,At.num h n (j+1) ag]
theorem At.cut{Z t:ak}{a:Nat}(h:At Z a t){j n:Nat}(hn:j+n<=t.length):part Z (a+j) n=part t j n:=by
 have:=h.1;apply anp
 .rw[qN ag,qN hn]
 .intro i hi;rw[qN ag]at hi;rw[vI hi,vI hi,dW,h.2 (j+i) ag]
theorem At.aat(t:ak){j n:Nat}(hn:j+n<=t.length):At t j (part t j n):=by refine⟨by rw[qN hn];exact hn,λi hi=>?_⟩;rw[qN hn]at hi;rw[vI hi]
theorem At.trans{Z t u:ak}{a b:Nat}(h:At Z a t)(k:At t b u):At Z (a+b) u:=by have h1:=h.1;have h2:=k.1;refine⟨ag,λi hi=>?_⟩;rw[dW,h.2 (b+i) ag,k.2 i hi]
theorem anq{t:ak}{j n:Nat}(hn:j+n<=t.length):le (part t j n) 0 n=le t j n:=by have h:=(At.aat t hn).num n 0 (by rw[qN hn];omega);rw[<-h];rfl
theorem Ko(c:UInt8)(l:ak)(i:Nat):tZ (c::l) (i+1)=tZ l i:=by simp[tZ]
theorem aau(c:UInt8)(l:ak):∀n a,le (c::l) (a+1) n=le l a n
 |0,_=>rfl
 |n+1,a=>by show tZ (c::l) (a+1)+256*le (c::l) (a+1+1) n=tZ l a+256*le l (a+1) n;rw[Ko,aau c l n (a+1)]
theorem aep:∀n v,le (u_ n v) 0 n=v%256^n
 |0,v=>by simp[le,Nat.mod_one]
 |n+1,v=>by
  show tZ (UInt8.ofNat (v%256)::u_ n (v/256)) 0+256*le (UInt8.ofNat (v%256)::u_ n (v/256)) (0+1) n=_;rw[aau,aep n (v/256)]
  have:tZ (UInt8.ofNat (v%256)::u_ n (v/256)) 0=v%256:=by simp[tZ]
  rw[this,jd,gu (256^n),Nat.mod_mul]
theorem aeq:∀(p:ak),u_ p.length (le p 0 p.length)=p
 |[]=>rfl
 |c::p=>by
  have h:le (c::p) 0 (p.length+1)=c.toNat+256*le p 0 p.length:=by show tZ (c::p) 0+256*le (c::p) (0+1) p.length=_;rw[aau];rfl
  have hc:=nG c;show UInt8.ofNat (le (c::p) 0 (p.length+1)%256)::u_ p.length (le (c::p) 0 (p.length+1)/256)=_;rw[h,show(c.toNat+256*le p 0 p.length)%256=c.toNat by omega,show(c.toNat+256*le p 0 p.length)/256=le p 0 p.length by omega,aeq p];simp
theorem ap7{p:ak}{s:Nat}(hp:p.length=8)(hs:s<2^64):p=u_ 8 s↔s=le p 0 8:=by
 constructor
 .intro h;rw[h,aep,cu (by simpa using hs)]
 .intro h;have:=aeq p;rw[hp]at this;rw[h,this]
theorem At.seal{Z t:ak}{a n:Nat}(h:At Z a t)(ht:t.length=n+8):AA Z a n=if sumOf (part t 0 n)=le (part t n 8) 0 8 then none else some (6,a+n):=by
 have h1:=h.1;unfold AA;rw[au ag,h.cut (j:=n) (n:=8) ag];have h2:=h.cut (j:=0) (n:=n) ag;rw[gy]at h2;rw[h2];have:=ap7 (p:=part t n 8) (s:=sumOf (part t 0 n)) (qN ag) (JG _);by_cases q:part t n 8=u_ 8 (sumOf (part t 0 n))
 .rw[ay q,ay (this.1 q)]
 .rw[au q,au (λx=>q (this.2 x))]
theorem aer{Z:ak}{a n:Nat}(h:Z.length<a+n+8):AA Z a n=some (4,Z.length):=by unfold AA;rw[ay h]
theorem YO(Z:ak):∀(ws:ak)(a i:Nat),i<ws.length->a+i<Z.length->(∀j,j<i->tZ Z (a+j)=(ws.getD j 0).toNat)->tZ Z (a+i)≠(ws.getD i 0).toNat->DK Z a ws=some (5,a+i)
 |[],_,_,h,_,_,_=>by simp at h
 |c::ws,a,0,_,h2,_,h4=>by unfold DK;rw[au ag,au (by simpa using h4)];rfl
 |c::ws,a,i+1,h1,h2,h3,h4=>by
  have h0:=h3 0 ag;unfold DK;rw[au ag,ay (by simpa using h0)];rw[YO Z ws (a+1) i iK ag (λj hj=>?_) ?_,show a+1+i=a+(i+1)by omega]
  .rw[show a+1+i=a+(i+1)by omega];simpa using h4
  .exact azr
theorem YP(Z:ak):∀(ws:ak)(a:Nat),(∀j,j<ws.length->a+j<Z.length/\tZ Z (a+j)=(ws.getD j 0).toNat)->DK Z a ws=none
 |[],_,_=>rfl
 |c::ws,a,h=>by have h0:=h 0 ax;unfold DK;rw[au ag,ay (by simpa using h0.2)];refine YP Z ws (a+1) (λj hj=>?_);have:=h (j+1) jH;rw[show a+1+j=a+(j+1)by omega];exact⟨this.1,by rw[this.2];simp⟩
theorem VT(Z:ak):∀(ws:ak)(a d:Nat),d<ws.length->Z.length=a+d->(∀j,j<d->tZ Z (a+j)=(ws.getD j 0).toNat)->DK Z a ws=some (4,Z.length)
 |[],_,_,h,_,_=>by simp at h
 |c::ws,a,0,_,h2,_=>by unfold DK;rw[ay ag]
 |c::ws,a,d+1,h1,h2,h3=>by have h0:=h3 0 ag;unfold DK;rw[au ag,ay (by simpa using h0)];refine VT Z ws (a+1) d iK ag (λj hj=>?_);exact azr
theorem XG{l ws:ak}{c:Nat}:Dj l ws=some c↔c<min ws.length l.length/\(∀i,i<c->tZ l i=(ws.getD i 0).toNat)/\tZ l c≠(ws.getD c 0).toNat:=by
 unfold Dj;rw[pF];constructor
 .rintro⟨h1,h2,h3⟩;exact⟨jI,λi hi=>by simpa using h3 i hi,iK⟩
 .rintro⟨h1,h2,h3⟩;exact⟨by simpa using h3,iK,λi hi=>by simpa using h2 i hi⟩
theorem Gt{l ws:ak}:Dj l ws=none↔∀i,i<min ws.length l.length->tZ l i=(ws.getD i 0).toNat:=by
 unfold Dj;rw[pG];constructor
 .intro h i hi;have:=h i nZ;exact ayh
 .intro h i hi;have:=h i nZ;exact ayh
theorem At.acx{Z t ws:ak}{a i:Nat}(h:At Z a t)(hb:Dj t ws=some i):DK Z a ws=some (5,a+i):=by
 obtain⟨h1,h2,h3⟩:=XG.1 hb;have h4:=h.1;refine YO Z ws a i ag ag (λj hj=>?_) ?_
 .rw[h.2 j ag];exact h2 j hj
 .rw[h.2 i ag];exact h3
theorem At.PN{Z t ws:ak}{a:Nat}(h:At Z a t)(hb:Dj t ws=none)(hl:ws.length<=t.length):DK Z a ws=none:=by have h1:=Gt.1 hb;have h4:=h.1;refine YP Z ws a (λj hj=>⟨ag,?_⟩);rw[h.2 j ag];exact h1 j ag
theorem At.YQ{Z t ws:ak}{a:Nat}(h:At Z a t)(hb:Dj t ws=none)(hl:t.length<ws.length)(hz:Z.length=a+t.length):DK Z a ws=some (4,Z.length):=by have h1:=Gt.1 hb;refine VT Z ws a t.length hl hz (λj hj=>?_);rw[h.2 j hj];exact h1 j ag
def vZ:List (Nat×Nat×Int×Int)->Option Nat
 |[]=>none
 |(p,v,lo,hi)::r=>if(v:Int)<lo\/hi<(v:Int)then some p else vZ r
theorem ahv(a b c:Option (Nat×Nat)):Qi (Qi a b) c=Qi a (Qi b c):=by cases a<;>rfl
theorem yS(p v:Nat)(lo hi:Int)(r:List (Nat×Nat×Int×Int))(ok:Bool)(h:ok=true↔lo<=(v:Int)/\(v:Int)<=hi):(vZ ((p,v,lo,hi)::r)).map (λx=>(1,x))=Qi (zL ok 1 p) ((vZ r).map (λx=>(1,x))):=by
 cases ok with
 |true=>
  have:=h.1 rfl;show(if(v:Int)<lo\/hi<(v:Int)then some p else vZ r).map (λx=>(1,x))=_;rw[au ag];rfl
 |false=>
  have:¬(lo<=(v:Int)/\(v:Int)<=hi):=λx=>by have:=h.2 x;cases this
  show(if(v:Int)<lo\/hi<(v:Int)then some p else vZ r).map (λx=>(1,x))=_;rw[ay ag];rfl
theorem aes(k n i z c m ln zz:Nat):UD none k n i z c m ln zz=(vZ [(6,k,1,128),(7,n,(k:Int),128),(8,i,0,(n:Int)-1),(9,z,0,0),(10,c,1,65536),(14,m,4,300000),(18,ln,0,65536),(22,zz,0,0)]).map (λx=>(1,x)):=by
 rw[yS _ _ _ _ _ (decide (1<=k/\k<=128)) aS,yS _ _ _ _ _ (decide (k<=n/\n<=128)) aS,yS _ _ _ _ _ (decide (i<n)) aS,yS _ _ _ _ _ (decide (z=0)) ax,yS _ _ _ _ _ (decide (1<=c/\c<=65536)) aS,yS _ _ _ _ _ (decide (4<=m/\m<=300000)) aS,yS _ _ _ _ _ (decide (ln<=65536)) aS,yS _ _ _ _ _ (decide (zz=0)) ax];unfold UD;simp only[ahv];have:(Option.map (λx=>(1,x)) (vZ []))=(none:Option (Nat×Nat)):=rfl;rw[this];have o:∀r:Option (Nat×Nat),Qi r none=r:=λr=>by cases r<;>rfl
 rw[o];rfl
def x9(u:ak)(a:Nat)(ns:List (ak))(zs:aA):Except Nat (ak×Nat):=
 if u.length<a+6\/le u a 2<1\/255<le u a 2\/u.length<a+6+le u a 2 then .error a
 else if 0<ns.length/\vO (part u (a+2) (le u a 2)) (ns.getD (ns.length-1) [])=true then .error (a+2)
 else if 65536<zs.sum+le u (a+2+le u a 2) 4 then .error (a+2+le u a 2)
 else .ok (part u (a+2) (le u a 2),le u (a+2+le u a 2) 4)
def zO(u:ak):Nat->Nat->List (ak)->aA->Except Nat (List (ak)×aA)
 |0,a,ns,zs=>if a<u.length then .error a else .ok (ns,zs)
 |c+1,a,ns,zs=>match x9 u a ns zs with
  | .error p=>.error p
  | .ok (nm,z)=>zO u c (a+(6+nm.length)) (ns++[nm]) (zs++[z])
def AB(u:ak):Except Nat (List (ak)×aA):=if 1000<le u 0 4 then .error 0 else zO u (le u 0 4) 4 [] []
def upE(b:Nat)(r:Except Nat (List (ak)×aA)):Except (Nat×Nat) (List (ak)×aA):=
 match r with
 | .error p=>.error (7,b+p)
 | .ok x=>.ok x
theorem N_{Z u:ak}{m:Nat}(h:At Z 32 u)(hu:u.length=m):∀(c a:Nat)(ns:List (ak))(zs:aA),a<=m->zs.sum<=65536->agd (32+m) (Jr Z (32+m) c (32+a) ns zs)=upE 32 (zO u c a ns zs)
 |0,a,ns,zs,ha,_=>by
  unfold Jr zO;simp only[agd];by_cases q:a<u.length
  .rw[ay q,au ag];rfl
  .rw[au q,ay ag];rfl
 |c+1,a,ns,zs,ha,hz=>by
  unfold Jr zO;by_cases q0:u.length<a+6
  .have hb:x9 u a ns zs=.error a:=by unfold x9;rw[ay (.inl q0)]
   rw[hb];by_cases q1:32+m<32+a+2
   .rw[ay q1];rfl
   .rw[au q1,ay (by right;right;omega)];rfl
  .have e2:le Z (32+a) 2=le u a 2:=h.num 2 a ag;rw[au ag,e2];by_cases q1:le u a 2<1\/255<le u a 2\/u.length<a+6+le u a 2
   .have hb:x9 u a ns zs=.error a:=by unfold x9;rw[ay (.inr q1)]
    rw[hb,ay ag];rfl
   .have e3:part Z (32+a+2) (le u a 2)=part u (a+2) (le u a 2):=by rw[dW];exact h.cut ag
    have e4:le Z (32+a+2+le u a 2) 4=le u (a+2+le u a 2) 4:=by rw[show 32+a+2+le u a 2=32+(a+2+le u a 2)by omega];exact h.num 4 _ ag
    rw[au ag,e3,e4];by_cases q2:0<ns.length/\vO (part u (a+2) (le u a 2)) (ns.getD (ns.length-1) [])=true
    .have hb:x9 u a ns zs=.error (a+2):=by unfold x9;rw[au ag,ay q2]
     rw[hb,ay q2];simp only[agd,upE];rw[dW]
    .rw[au q2]
     have hs:65536<DJ (zs++[le u (a+2+le u a 2) 4])↔65536<zs.sum+le u (a+2+le u a 2) 4:=by unfold DJ;simp only[iU,jT,nN,gy];split<;>omega
     by_cases q3:65536<zs.sum+le u (a+2+le u a 2) 4
     .have hb:x9 u a ns zs=.error (a+2+le u a 2):=by unfold x9;rw[au ag,au q2,ay q3]
      rw[hb,ay (hs.2 q3)];simp only[agd,upE];rw[show 32+a+2+le u a 2=32+(a+2+le u a 2)by omega]
     .have hb:x9 u a ns zs=.ok (part u (a+2) (le u a 2),le u (a+2+le u a 2) 4):=by unfold x9;rw[au ag,au q2,au q3]
      rw[hb,au (λx=>q3 (hs.1 x))];simp only;have hl:(part u (a+2) (le u a 2)).length=le u a 2:=qN ag;rw[show 32+a+6+le u a 2=32+(a+(6+(part u (a+2) (le u a 2)).length))by rw[hl];omega];exact N_ h hu c _ _ _ oz aS
structure St where
 k:Nat
 n:Nat
 i:Nat
 c:Nat
 ns:List (ak)
 zs:aA
 qH:ak
 m:Nat
 ln:Nat
 tt:Nat
 nx:Nat
 pl:Nat
def St.sz(s:St):Nat:=yT s.nx s.c s.m s.ln s.qH.length
def zg(s:St)(t:ak):Option (Nat×Nat):=
 if t.length<s.sz then some (4,s.pl+t.length)
 else if sumOf (part t 0 (t.length-8))=le (part t (t.length-8) 8) 0 8 then none else some (6,s.pl+(t.length-8))
def zQ(t:ak):List (Nat×Nat×Int×Int):=[(6,le t 6 1,1,128),(7,le t 7 1,(le t 6 1:Int),128),(8,le t 8 1,0,(le t 7 1:Int)-1),(9,le t 9 1,0,0),(10,le t 10 4,1,65536),(14,le t 14 4,4,300000),(18,le t 18 4,0,65536),(22,le t 22 2,0,0)]
def Kr(s:St)(t:ak):Except (Nat×Nat) St:=
 match Dj t BU with
 |some i=>.error (5,s.pl+i)
 |none=>match zg s t with
  |some e=>.error e
  |none=>match vZ (zQ t)with
   |some p=>.error (1,p)
   |none=>.ok {s with k:=le t 6 1,n:=le t 7 1,i:=le t 8 1,c:=le t 10 4,m:=le t 14 4,ln:=le t 18 4}
def VU(s:St)(t:ak):Except (Nat×Nat) St:=
 match zg s t with
 |some e=>.error e
 |none=>match AB (part t 0 (t.length-8))with
  | .error p=>.error (7,s.pl+p)
  | .ok (ns,zs)=>if s.ln=ug s.k zs.sum then .ok {s with ns:=ns,zs:=zs,tt:=zs.sum,qH:=[]}else .error (7,18)
def TZ(u:ak)(F:Int):Option Nat:=(List.range u.length).find? λm=>decide (F<=(m:Int)/\tZ u m≠0)
def Fb(s:St)(t:ak):Except (Nat×Nat) St:=
 match zg s t with
 |some e=>.error e
 |none=>match TZ (part t 0 (t.length-8)) (BF s.k s.i s.tt-(s.qH.length:Int))with
  |some m=>.error (8,s.pl+m)
  |none=>.ok {s with qH:=s.qH++part t 0 (t.length-8)}
def Kt(s:St)(t:ak):Except (Nat×Nat) St:=
 match Dj t vH with
 |some i=>.error (5,s.pl+i)
 |none=>if t.length<s.sz then .error (4,s.pl+t.length)else .ok s
def vK(s:St)(t:ak):Except (Nat×Nat) St:=
 if s.nx=0 then Kr s t else if s.nx=1 then VU s t else if s.nx=2 then Fb s t else Kt s t
def x_(s:St):Nat:=if s.nx=0 then 1 else if s.nx=3 then 4 else if s.qH.length<s.ln then 2 else 3
def tV(s:St)(t:ak):St:={s with pl:=s.pl+t.length,nx:=x_ s}
structure Head(s:St)(Z:ak):Prop where
 ok:GI Z=none
 k:s.k=le Z 6 1
 n:s.n=le Z 7 1
 i:s.i=le Z 8 1
 c:s.c=le Z 10 4
 m:s.m=le Z 14 4
 ln:s.ln=le Z 18 4
structure Man(s:St)(Z:ak):Prop where
 head:Head s Z
 names:EH Z s.m=.ok (s.ns,s.zs)
 long:s.ln=Eo s.k s.zs
 tt:s.tt=s.zs.sum
 small:s.zs.sum<=65536
def T_(s:St)(Z:ak)(f a:Nat)(qH:ak):Except (Nat×Nat) (ak×Nat):=
 yX Z (decide (s.i<s.k)) s.c s.ln ((DJ s.zs:Int)-((s.i*Eo s.k s.zs:Nat):Int)) f a qH
inductive Good (s:St) (Z:ak):Prop
 |head (h0:s.nx=0) (h1:s.pl=0) (h2:s.qH=[])
 |OD (h0:s.nx=1) (h1:s.pl=32) (h2:s.qH=[]) (hh:Head s Z)
 |frame (h0:s.nx=2) (hm:Man s Z) (h1:s.qH.length<s.ln) (f:Nat) (hf:s.ln<=f+s.qH.length) (he:T_ s Z s.ln (32+s.m+8) []=T_ s Z f s.pl s.qH)
 |tail (h0:s.nx=3) (hm:Man s Z) (h1:s.ln=s.qH.length) (he:T_ s Z s.ln (32+s.m+8) []=.ok (s.qH,s.pl))
 |done (h0:s.nx=4) (hm:Man s Z) (h1:s.ln=s.qH.length) (a:Nat) (ha:s.pl=a+4) (he:T_ s Z s.ln (32+s.m+8) []=.ok (s.qH,a)) (hx:DK Z a vH=none)
theorem XH{Z:ak}{e:Nat×Nat}(h:GI Z=some e):qY Z=.error e:=by unfold qY;rw[h]
theorem Ku{s:St}{Z:ak}{e:Nat×Nat}(h:Head s Z)(hn:EH Z s.m=.error e):qY Z=.error e:=by unfold qY;rw[h.ok];simp only;rw[<-h.m,hn]
theorem XI{s:St}{Z:ak}{ns:List (ak)}{zs:aA}(h:Head s Z)(hn:EH Z s.m=.ok (ns,zs))(hl:¬s.ln=Eo s.k zs):qY Z=.error (7,18):=by unfold qY;rw[h.ok];simp only;rw[<-h.m,hn];simp only;rw[<-h.ln,<-h.k,au hl]
theorem I7{s:St}{Z:ak}{e:Nat×Nat}(h:Man s Z)(hf:T_ s Z s.ln (32+s.m+8) []=.error e):qY Z=.error e:=by have hh:=h.head;unfold qY;rw[hh.ok];simp only;rw[<-hh.m,h.names];simp only;rw[<-hh.ln,<-hh.k,ay h.long];unfold T_ at hf;rw[<-hh.i,<-hh.c,hf]
theorem Gu{s:St}{Z:ak}{e:Nat×Nat}{qH:ak}{a:Nat}(h:Man s Z)(hf:T_ s Z s.ln (32+s.m+8) []=.ok (qH,a))(ht:Qi (DK Z a vH) (zL (decide (Z.length<=a+4)) 9 (a+4))=some e):qY Z=.error e:=by have hh:=h.head;unfold qY;rw[hh.ok];simp only;rw[<-hh.m,h.names];simp only;rw[<-hh.ln,<-hh.k,ay h.long];unfold T_ at hf;rw[<-hh.i,<-hh.c,hf];simp only;rw[ht]
theorem aav{s:St}{Z:ak}{qH:ak}{a:Nat}(h:Man s Z)(hf:T_ s Z s.ln (32+s.m+8) []=.ok (qH,a))(ht:Qi (DK Z a vH) (zL (decide (Z.length<=a+4)) 9 (a+4))=none):qY Z=.ok ⟨s.k,s.n,s.i,s.c,s.ns,s.zs,qH⟩:=by have hh:=h.head;unfold qY;rw[hh.ok];simp only;rw[<-hh.m,h.names];simp only;rw[<-hh.ln,<-hh.k,ay h.long];unfold T_ at hf;rw[<-hh.i,<-hh.c,hf];simp only;rw[ht,<-hh.n]
theorem Q9{s:St}{Z t:ak}{q:Nat}(hA:At Z s.pl t)(hz:s.sz=q+8)(ht:t.length<=s.sz){r:Option (Nat×Nat)}(h:zg s t=r)(h4:∀p,r=some (4,p)->Z.length=s.pl+t.length):AA Z s.pl q=r/\(r=none->t.length=q+8):=by
 unfold zg at h;by_cases q0:t.length<s.sz
 .rw[ay q0]at h;have:=h4 _ h.symm;refine⟨?_,λe=>by rw[e]at h;cases h⟩;rw[aer ag,<-h,this]
 .rw[au q0]at h;have hl:t.length=q+8:=ag;refine⟨?_,λ_=>hl⟩;rw[hA.seal hl,<-h,hl,iF]
theorem sz0{s:St}(h:s.nx=0):s.sz=24+8:=by unfold St.sz yT;rw[ay h]
theorem sz1{s:St}(h:s.nx=1):s.sz=s.m+8:=by unfold St.sz yT;rw[au ag,ay h]
theorem sz2{s:St}(h:s.nx=2):s.sz=min s.c (s.ln-s.qH.length)+8:=by unfold St.sz yT;rw[au ag,au ag,ay h]
theorem sz3{s:St}(h:s.nx=3):s.sz=4:=by unfold St.sz yT;rw[au ag,au ag,au ag]
theorem ahw{t:ak}{Z:ak}{a n:Nat}{ws:ak}(hA:At Z a t)(hb:Dj t ws=none)(hs:AA Z a n=some (4,Z.length))(hz:Z.length=a+t.length):Qi (DK Z a ws) (AA Z a n)=some (4,Z.length):=by
 by_cases q:t.length<ws.length
 .rw[hA.YQ hb q hz];rfl
 .rw[hA.PN hb ag];exact hs
theorem akC{s:St}{Z t:ak}(h0:s.nx=0)(h1:s.pl=0)(h2:s.qH=[])(hA:At Z s.pl t)(ht:t.length<=s.sz):
  (∀e,Kr s t=.error e->(e.1=4->Z.length=s.pl+t.length)->GI Z=some e)/\(∀s',Kr s t=.ok s'->t.length=32/\Head s' Z/\s'.qH=[]/\s'.nx=0/\s'.pl=0):=by
 have hz:=sz0 h0;unfold Kr;cases hb:Dj t BU with
 |some i=>
  refine⟨λe he _=>?_,λs' he=>kH⟩;cases he;unfold GI;rw[h1]at hA;rw[hA.acx hb,h1];rfl
 |none=>
  simp only;cases hs:zg s t with
  |some x=>
   refine⟨λe he h4=>?_,λs' he=>kH⟩;cases he;obtain⟨h5,_⟩:=Q9 hA hz ht hs (λp hp=>awZ);rw[h1]at hA h5;unfold GI;by_cases q:t.length<32
   .have hx:x=(4,s.pl+t.length):=by unfold zg at hs;rw[ay ag]at hs;cases hs;rfl
    have hZ:=h4 (by rw[hx]);rw[h1,bM]at hZ;rw[ahw hA hb (by rw[h5,hx,hZ,h1,bM]) ag];rw[hx,hZ,h1,bM]
   .rw[hA.PN hb (by simp[BU];omega)];simp only[Qi];rw[h5]
  |none=>
   obtain⟨h5,h6⟩:=Q9 hA hz ht hs (λp hp=>by cases hp);have hl:=h6 rfl;rw[h1]at hA h5;have hN:∀j n,j+n<=32->le Z j n=le t j n:=λj n hj=>by have:=hA.num n j ag;rw[bM]at this;exact this
   have hH:GI Z=(vZ (zQ t)).map (λx=>(1,x)):=by unfold GI;rw[hA.PN hb (by simp[BU];omega)];simp only[Qi];rw[h5];simp only;rw[aes,hN 6 1 ag,hN 7 1 ag,hN 8 1 ag,hN 9 1 ag,hN 10 4 ag,hN 14 4 ag,hN 18 4 ag,hN 22 2 ag];rfl
   simp only;cases hn:vZ (zQ t)with
   |some p=>
    refine⟨λe he _=>?_,λs' he=>kH⟩;cases he;rw[hH,hn];rfl
   |none=>
    refine⟨λe he=>kH,λs' he=>?_⟩;cases he;exact⟨hl,⟨by rw[hH,hn];rfl,(hN 6 1 ag).symm,(hN 7 1 ag).symm,(hN 8 1 ag).symm,(hN 10 4 ag).symm,(hN 14 4 ag).symm,(hN 18 4 ag).symm⟩,h2,h0,h1⟩
theorem zS{k:Nat}{zs:aA}(h:zs.sum<=65536):Eo k zs=ug k zs.sum:=by unfold Eo ug DJ;rw[ay h]
theorem LM(u:ak):∀(c a:Nat)(ns:List (ak))(zs:aA){ns':List (ak)}{zs':aA},zs.sum<=65536->zO u c a ns zs=.ok (ns',zs')->zs'.sum<=65536
 |0,a,ns,zs,ns',zs',hz,h=>by
  unfold zO at h;split at h
  .cases h
  .cases h;exact hz
 |c+1,a,ns,zs,ns',zs',hz,h=>by
  unfold zO at h;cases hb:x9 u a ns zs with
  |error p=>rw[hb]at h;cases h
  |ok x=>
   obtain⟨nm,z⟩:=x;rw[hb]at h;refine LM u c _ _ _ ?_ h;unfold x9 at hb;split at hb
   .cases hb
   .split at hb
    .cases hb
    .split at hb
     .cases hb
     .cases hb;simp;omega
theorem an_{s:St}{Z t:ak}(h0:s.nx=1)(h1:s.pl=32)(hh:Head s Z)(hA:At Z s.pl t)(ht:t.length<=s.sz):
  (∀e,VU s t=.error e->(e.1=4->Z.length=s.pl+t.length)->qY Z=.error e)/\(∀s',VU s t=.ok s'->t.length=s.m+8/\Man s' Z/\s'.qH=[]/\s'.nx=1/\s'.pl=32/\s'.m=s.m):=by
 have hz:=sz1 h0;have hr:=hh.ok
 have hb:4<=s.m:=by
  have h2:=hh.ok;unfold GI at h2;split at h2
  .cases h2
  .have:=NW h2;rw[hh.m];omega
 unfold VU;cases hs:zg s t with
 |some x=>
  refine⟨λe he h4=>?_,λs' he=>kH⟩;cases he;obtain⟨h5,_⟩:=Q9 hA hz ht hs (λp hp=>awZ);rw[h1]at h5;exact Ku hh (by unfold EH;rw[h5])
 |none=>
  obtain⟨h5,h6⟩:=Q9 hA hz ht hs (λp hp=>by cases hp);have hl:=h6 rfl;have Oo:=hA;rw[h1]at hA h5;simp only;rw[hl,iF];have hU:At Z 32 (part t 0 s.m):=by have:=hA.trans (At.aat t (j:=0) (n:=s.m) ag);exact this
  have hUl:(part t 0 s.m).length=s.m:=qN ag
  have Tm:EH Z s.m=upE 32 (AB (part t 0 s.m)):=by
   unfold EH AB;rw[h5];simp only;have e4:le Z 32 4=le (part t 0 s.m) 0 4:=hU.num 4 0 ag;rw[e4];by_cases q:1000<le (part t 0 s.m) 0 4
   .rw[ay q,ay q];rfl
   .rw[au q,au q];exact N_ hU hUl _ 4 [] [] ag ax
  cases hL:AB (part t 0 s.m)with
  |error p=>
   refine⟨λe he _=>?_,λs' he=>kH⟩;cases he;refine Ku hh ?_;rw[Tm,hL,h1];rfl
  |ok x=>
   obtain⟨ns,zs⟩:=x;simp only
   have hsm:zs.sum<=65536:=by
    unfold AB at hL;split at hL
    .cases hL
    .exact LM _ _ _ _ _ ax hL
   have ar2:EH Z s.m=.ok (ns,zs):=by rw[Tm,hL];rfl
   by_cases q:s.ln=ug s.k zs.sum
   .rw[ay q];refine⟨λe he=>kH,λs' he=>?_⟩;cases he;exact⟨trivial,⟨⟨hh.ok,hh.k,hh.n,hh.i,hh.c,hh.m,hh.ln⟩,ar2,by rw[zS hsm];exact q,rfl,hsm⟩,rfl,h0,h1,rfl⟩
   .rw[au q];refine⟨λe he _=>?_,λs' he=>kH⟩;cases he;exact XI hh ar2 (by rw[zS hsm];exact q)
theorem Nc{u:ak}{F:Int}{m:Nat}:TZ u F=some m↔m<u.length/\(F<=(m:Int)/\tZ u m≠0)/\∀j,j<m->F<=(j:Int)->tZ u j=0:=by
 unfold TZ;rw[pF];constructor
 .rintro⟨h1,h2,h3⟩;refine⟨jI,iK,λj hj hF=>?_⟩;have:=h3 j hj;simp only[av6,avK,not_and,pO]at this;exact this hF
 .rintro⟨h1,h2,h3⟩;refine⟨jI,iK,λj hj=>?_⟩;simp only[av6,avK,not_and,pO];exact h3 j hj
theorem Gv{u:ak}{F:Int}:TZ u F=none↔∀m,m<u.length->F<=(m:Int)->tZ u m=0:=by
 unfold TZ;rw[pG];constructor
 .intro h m hm hF;have:=h m (by simpa using hm);simp only[iP,not_and,pO]at this;exact this hF
 .intro h m hm;simp only[iP,not_and,pO];exact h m (by simpa using hm)
theorem YR{en:Int}:∀{p:ak}{a m:Nat},(∀j,j<p.length->en<=((m+j:Nat):Int)->tZ p j=0)->Iq en a m p=none
 |[],_,_,_=>rfl
 |b::p,a,m,h=>by
  have h0:(m:Int)<en\/b.toNat=0:=by
   rcases nS (m:Int) en with x|x
   .exact .inl x
   .exact .inr (h 0 ax x)
  unfold Iq;rw[ay h0];refine YR (λj hj hx=>?_);have:=h (j+1) jH ag;rwa[Ko]at this
theorem YS{en:Int}:∀{p:ak}{a m:Nat}(i:Nat),i<p.length->en<=((m+i:Nat):Int)->tZ p i≠0->(∀j,j<i->en<=((m+j:Nat):Int)->tZ p j=0)->Iq en a m p=some (8,a+i)
 |[],_,_,_,h,_,_,_=>by simp at h
 |b::p,a,m,0,_,h2,h3,_=>by
  unfold Iq
  have:¬((m:Int)<en\/b.toNat=0):=by
   rintro(x|x)
   .omega
   .exact h3 x
  rw[au this];rfl
 |b::p,a,m,i+1,h1,h2,h3,h4=>by
  have h0:(m:Int)<en\/b.toNat=0:=by
   rcases nS (m:Int) en with x|x
   .exact .inl x
   .exact .inr (h4 0 ag x)
  unfold Iq;rw[ay h0];rw[YS (p:=p) (a:=a+1) (m:=m+1) i iK ag (by rwa[Ko]at h3) (λj hj hx=>?_),show a+1+i=a+(i+1)by omega];have:=h4 (j+1) ag ag;rwa[Ko]at this
theorem ar4{k i tt cl a:Nat}{u:ak}(hu:cl+u.length<=ug k tt):(if decide (i<k)then Iq ((tt:Int)-((i*ug k tt:Nat):Int)) a cl u else none)=(TZ u (BF k i tt-(cl:Int))).map (λm=>(8,a+m)):=by
 by_cases WT:i<k
 .rw[ja WT,ay rfl];have hU:BF k i tt=max 0 (min (ug k tt:Int) ((tt:Int)-((i*ug k tt:Nat):Int))):=by unfold BF;rw[au ag]
  rw[hU];generalize((tt:Int)-((i*ug k tt:Nat):Int))=en;generalize ug k tt=L at*;cases hp:TZ u (max 0 (min (L:Int) en)-(cl:Int))with
  |none=>
   rw[Gv]at hp;rw[YR (λj hj hx=>hp j hj ag)];rfl
  |some m=>
   rw[Nc]at hp;obtain⟨h1,⟨h2,h3⟩,h4⟩:=hp;rw[YS m h1 ag h3 (λj hj hx=>h4 j hj ag)];rfl
 .rw[fD WT,au ax];have hU:BF k i tt=(ug k tt:Int):=by unfold BF;rw[ay ag]
  rw[hU]
  have:TZ u ((ug k tt:Int)-(cl:Int))=none:=by rw[Gv];intro m hm hF;omega
  rw[this];rfl
theorem afM{s:St}{Z t:ak}(h0:s.nx=2)(hm:Man s Z)(h1:s.qH.length<s.ln)(hc:1<=s.c)(f:Nat)(hf:s.ln<=f+s.qH.length)(he:T_ s Z s.ln (32+s.m+8) []=T_ s Z f s.pl s.qH)(hA:At Z s.pl t)(ht:t.length<=s.sz):
  (∀e,Fb s t=.error e->(e.1=4->Z.length=s.pl+t.length)->qY Z=.error e)/\
  (∀s',Fb s t=.ok s'->t.length=s.sz/\Man s' Z/\s'.nx=2/\s'.pl=s.pl/\s'.ln=s.ln/\s'.qH.length<=s'.ln/\∃f',s.ln<=f'+s'.qH.length/\T_ s' Z s'.ln (32+s'.m+8) []=T_ s' Z f' (s.pl+t.length) s'.qH):=by
 have hz:=sz2 h0;obtain⟨f,rfl⟩:∃g,f=g+1:=⟨f-1,ag⟩
 have rY:T_ s Z (f+1) s.pl s.qH=match AA Z s.pl (min (s.ln-s.qH.length) s.c)with
   |some e=>.error e
   |none=>match(if decide (s.i<s.k)then Iq ((DJ s.zs:Int)-((s.i*Eo s.k s.zs:Nat):Int)) s.pl s.qH.length (part Z s.pl (min (s.ln-s.qH.length) s.c))else none)with
    |some e=>.error e
    |none=>T_ s Z f (s.pl+min (s.ln-s.qH.length) s.c+8) (s.qH++part Z s.pl (min (s.ln-s.qH.length) s.c)):=by
  unfold T_;rw[yX,au ag]
  all_goals rfl
 have hts:DJ s.zs=s.tt:=by unfold DJ;rw[ay hm.small,hm.tt]
 have hlS:Eo s.k s.zs=ug s.k s.tt:=by rw[zS hm.small,hm.tt]
 rw[Nat.min_comm]at hz;obtain⟨q,eq⟩:∃q,min (s.ln-s.qH.length) s.c=q:=⟨_,rfl⟩;rw[eq]at hz rY;have hq1:1<=q:=ag;have hq2:s.qH.length+q<=s.ln:=ag;unfold Fb;cases hs:zg s t with
 |some x=>
  refine⟨λe hx h4=>?_,λs' hx=>lh⟩;cases hx;obtain⟨h5,_⟩:=Q9 hA hz ht hs (λp hp=>awZ);refine I7 hm ?_;rw[he,rY,h5]
 |none=>
  obtain⟨h5,h6⟩:=Q9 hA hz ht hs (λp hp=>by cases hp);have hl:=h6 rfl;have hP:part Z s.pl q=part t 0 q:=hA.cut (j:=0) ag;have hPl:(part t 0 q).length=q:=qN ag;rw[h5,hts,hlS,hP]at rY;simp only at rY;rw[ar4 (u:=part t 0 q) (by rw[hPl,<-hlS,<-hm.long];omega)]at rY;simp only;rw[hl,iF];cases hp:TZ (part t 0 q) (BF s.k s.i s.tt-(s.qH.length:Int))with
  |some m=>
   refine⟨λe hx _=>?_,λs' hx=>lh⟩;cases hx;refine I7 hm ?_;rw[he,rY,hp];rfl
  |none=>
   refine⟨λe hx=>lh,λs' hx=>?_⟩;cases hx;refine⟨ag,⟨⟨hm.head.ok,hm.head.k,hm.head.n,hm.head.i,hm.head.c,hm.head.m,hm.head.ln⟩,hm.names,hm.long,hm.tt,hm.small⟩,h0,rfl,rfl,?_,f,?_,?_⟩
   .simp only[bK];rw[hPl];exact hq2
   .simp only[bK];rw[hPl];omega
   .rw[hp]at rY;have:T_ s Z s.ln (32+s.m+8) []=T_ s Z f (s.pl+q+8) (s.qH++part t 0 q):=by rw[he,rY];rfl
    unfold T_ at this⊢;rw[<-dW];exact this
theorem akD{s:St}{Z t:ak}(h0:s.nx=3)(hm:Man s Z)(he:T_ s Z s.ln (32+s.m+8) []=.ok (s.qH,s.pl))(hA:At Z s.pl t)(ht:t.length<=s.sz):
  (∀e,Kt s t=.error e->(e.1=4->Z.length=s.pl+t.length)->qY Z=.error e)/\(∀s',Kt s t=.ok s'->t.length=4/\s'=s/\DK Z s.pl vH=none):=by
 have hz:=sz3 h0;unfold Kt;cases hb:Dj t vH with
 |some i=>
  refine⟨λe hx _=>?_,λs' hx=>lh⟩;cases hx;refine Gu hm he ?_;rw[hA.acx hb];rfl
 |none=>
  simp only;by_cases q:t.length<s.sz
  .rw[ay q];refine⟨λe hx h4=>?_,λs' hx=>lh⟩;cases hx;have hZ:=h4 rfl;refine Gu hm he ?_;rw[hA.YQ hb (by simp[vH];omega) hZ,hZ];rfl
  .rw[au q];refine⟨λe hx=>lh,λs' hx=>?_⟩;cases hx;exact⟨ag,rfl,hA.PN hb (by simp[vH];omega)⟩
theorem Head.facts{s:St}{Z:ak}(hh:Head s Z):1<=s.k/\s.k<=128/\s.k<=s.n/\s.n<=128/\s.i<s.n/\1<=s.c/\s.c<=65536/\4<=s.m/\s.m<=300000/\s.ln<=65536:=by
 have h2:=hh.ok;unfold GI at h2;split at h2
 .cases h2
 .have:=NW h2;rw[hh.k,hh.n,hh.i,hh.c,hh.m,hh.ln];omega
theorem acy{s:St}{Z t:ak}(hG:Good s Z)(h4:s.nx≠4)(hA:At Z s.pl t)(ht:t.length<=s.sz){e:Nat×Nat}(h:vK s t=.error e)(hs:e.1=4->Z.length=s.pl+t.length):qY Z=.error e:=by
 unfold vK at h;cases hG with
 |head h0 h1 h2=>rw[ay h0]at h;exact XH ((akC h0 h1 h2 hA ht).1 e h hs)
 |OD h0 h1 h2 hh=>rw[au ag,ay h0]at h;exact(an_ h0 h1 hh hA ht).1 e h hs
 |frame h0 hm h1 f hf he=>rw[au ag,au ag,ay h0]at h;exact(afM h0 hm h1 hm.head.facts.2.2.2.2.2.1 f hf he hA ht).1 e h hs
 |tail h0 hm h1 he=>rw[au ag,au ag,au ag]at h;exact(akD h0 hm he hA ht).1 e h hs
 |done h0=>exact absurd h0 h4
theorem afN{s s':St}{Z t:ak}(hG:Good s Z)(h4:s.nx≠4)(hA:At Z s.pl t)(ht:t.length<=s.sz)(h:vK s t=.ok s'):t.length=s.sz/\Good (tV s' t) Z/\s'.pl=s.pl/\s'.nx=s.nx:=by
 unfold vK at h;cases hG with
 |head h0 h1 h2=>
  rw[ay h0]at h;obtain⟨a1,a2,a3,a4,a5⟩:=(akC h0 h1 h2 hA ht).2 s' h;refine⟨by rw[sz0 h0];omega,?_,ag,ag⟩;refine .OD ?_ ?_ a3 ⟨a2.ok,a2.k,a2.n,a2.i,a2.c,a2.m,a2.ln⟩
  .simp only[tV,x_];rw[ay a4]
  .simp only[tV];omega
 |OD h0 h1 h2 hh=>
  rw[au ag,ay h0]at h;obtain⟨a1,a2,a3,a4,a5,a6⟩:=(an_ h0 h1 hh hA ht).2 s' h;refine⟨by rw[sz1 h0];omega,?_,ag,ag⟩;have hM:Man (tV s' t) Z:=⟨⟨a2.head.ok,a2.head.k,a2.head.n,a2.head.i,a2.head.c,a2.head.m,a2.head.ln⟩,a2.names,a2.long,a2.tt,a2.small⟩;have vY:(tV s' t).pl=32+(tV s' t).m+8:=by simp only[tV];omega
  have xR:(tV s' t).qH=[]:=a3;have Me:(tV s' t).ln=s'.ln:=rfl;by_cases q:0<s'.ln
  .refine .frame ?_ hM (by rw[xR,Me];simpa using q) s'.ln (by rw[Me];omega) (by rw[vY,xR,Me]);simp only[tV,x_];rw[au ag,au ag,ay (by rw[a3];simpa using q)]
  .refine .tail ?_ hM (by rw[xR,Me];simp;omega) ?_
   .simp only[tV,x_];rw[au ag,au ag,au (by rw[a3];simpa using q)]
   .rw[vY,xR,Me,show s'.ln=0 by omega];unfold T_;rw[yX]
 |frame h0 hm h1 f hf he=>
  rw[au ag,au ag,ay h0]at h;obtain⟨a1,a2,a3,a4,a5,a6,f',a7,a8⟩:=(afM h0 hm h1 hm.head.facts.2.2.2.2.2.1 f hf he hA ht).2 s' h;refine⟨a1,?_,a4,ag⟩;have hM:Man (tV s' t) Z:=⟨⟨a2.head.ok,a2.head.k,a2.head.n,a2.head.i,a2.head.c,a2.head.m,a2.head.ln⟩,a2.names,a2.long,a2.tt,a2.small⟩
  have h9:T_ (tV s' t) Z (tV s' t).ln (32+(tV s' t).m+8) []=T_ (tV s' t) Z f' (tV s' t).pl (tV s' t).qH:=by
   have e9:(tV s' t).pl=s.pl+t.length:=by simp only[tV];omega
   rw[e9];exact a8
  by_cases q:s'.qH.length<s'.ln
  .refine .frame ?_ hM q f' (by show s'.ln<=f'+s'.qH.length;omega) h9;simp only[tV,x_];rw[au ag,au ag,ay q]
  .refine .tail ?_ hM (by show s'.ln=s'.qH.length;omega) ?_
   .simp only[tV,x_];rw[au ag,au ag,au q]
   .rw[h9];unfold T_;cases f' with
    |zero=>rw[yX]
    |succ f'=>rw[yX,ay (by show s'.ln<=s'.qH.length;omega)]
 |tail h0 hm h1 he=>
  rw[au ag,au ag,au ag]at h;obtain⟨a1,rfl,a3⟩:=(akD h0 hm he hA ht).2 s' h;refine⟨by rw[sz3 h0];omega,?_,rfl,rfl⟩;refine .done ?_ ⟨⟨hm.head.ok,hm.head.k,hm.head.n,hm.head.i,hm.head.c,hm.head.m,hm.head.ln⟩,hm.names,hm.long,hm.tt,hm.small⟩ h1 s'.pl ?_ he a3
  .simp only[tV,x_];rw[au ag,ay h0]
  .simp only[tV];omega
 |done h0=>exact absurd h0 h4
def St.shd(s:St):xG:=⟨s.k,s.n,s.i,s.c,s.ns,s.zs,s.qH⟩
theorem acz{s:St}{Z:ak}(hG:Good s Z)(h4:s.nx=4):qY Z=if Z.length<=s.pl then .ok s.shd else .error (9,s.pl):=by
 cases hG with
 |done h0 hm h1 a ha he hx=>
  by_cases q:Z.length<=s.pl
  .rw[ay q,<-show qY Z=.ok s.shd from aav hm he (by rw[hx];simp only[Qi,zL];rw[ay aS])]
  .rw[au q,ha];exact Gu hm he (by rw[hx];simp only[Qi,zL];rw[au aS])
 |head h0=>omega
 |OD h0=>omega
 |frame h0=>omega
 |tail h0=>omega
theorem Good.bounds{s:St}{Z:ak}(hG:Good s Z):s.nx<=4/\(s.nx=0\/1<=s.k/\s.k<=128/\s.k<=s.n/\s.n<=128/\s.i<s.n/\1<=s.c/\s.c<=65536/\4<=s.m/\s.m<=300000/\s.ln<=65536)/\(s.nx<=1->s.qH=[])/\(s.nx=2->s.qH.length<s.ln)/\(2<=s.nx->s.tt<=65536/\s.qH.length<=s.ln):=by
 cases hG with
 |head h0 h1 h2=>exact⟨ag,.inl h0,λ_=>h2,ag,ag⟩
 |OD h0 h1 h2 hh=>exact⟨ag,.inr hh.facts,λ_=>h2,ag,ag⟩
 |frame h0 hm h1 f hf he=>exact⟨ag,.inr hm.head.facts,ag,λ_=>h1,λ_=>⟨awI,ag⟩⟩
 |tail h0 hm h1 he=>exact⟨ag,.inr hm.head.facts,ag,ag,λ_=>⟨awI,ag⟩⟩
 |done h0 hm h1=>exact⟨ag,.inr hm.head.facts,ag,ag,λ_=>⟨awI,ag⟩⟩
