import Derived.Test.YtnbflnamlpodcaaGreatDoorSmG
set_option maxHeartbeats 2000000
set_option maxRecDepth 100000
namespace Go.Proofs.Y
open Go.RowKit Go.Deep Go.Lf Go.Conc Go.ConcN Go.Gh Go.Hp
theorem Gz.congr{M:Nat}{sh sh':Nat->xG}{e:Nat}(h0:0<M)(h:∀i,i<M->sh i=sh' i)(hE:Gz M sh e):Gz M sh' e:=by
 have hA:BH M sh->BH M sh':=λx i hi=>by rw[<-h 0 h0,<-h i hi];exact x i hi
 have hA':BH M sh'->BH M sh:=λx i hi=>by rw[h 0 h0,h i hi];exact x i hi
 have hD:Dup M sh->Dup M sh':=λ⟨t,h1,h2⟩=>⟨t,h1,by rw[<-h _ h1,<-h t ag];exact h2⟩;have hD':Dup M sh'->Dup M sh:=λ⟨t,h1,h2⟩=>⟨t,h1,by rw[h _ h1,h t ag];exact h2⟩;have e0:=h 0 h0;rcases hE with⟨a,b⟩|⟨a,b,c⟩|⟨a,b,c,d⟩|⟨a,b,c,d,e⟩
 .exact .inl ⟨a,λx=>b (hA' x)⟩
 .exact .inr (.inl ⟨a,hA b,hD c⟩)
 .exact .inr (.inr (.inl ⟨a,hA b,λx=>c (hD' x),by rw[<-e0];exact d⟩))
 .exact .inr (.inr (.inr ⟨a,hA b,λx=>c (hD' x),d,by rw[<-e0];exact e⟩))
theorem MJ.congr{M:Nat}{sh sh':Nat->xG}{l:ak}(h0:0<M)(h:∀i,i<M->sh i=sh' i)(hF:MJ M sh l):MJ M sh' l:=by have e0:=h 0 h0;obtain⟨h1,h2⟩:=hF;rw[e0]at h1 h2;exact⟨h1,λt ht=>by rw[<-h t ht];exact h2 t ht⟩
theorem Zi.congr{M:Nat}{sh sh':Nat->xG}{vb:ai}{e:Nat}{w:ah}(h0:0<M)(h:∀i,i<M->sh i=sh' i)(hR:Zi M sh vb e w):Zi M sh' vb e w:=by
 have h':∀i,i<M->sh' i=sh i:=λi hi=>(h i hi).symm
 have e0:=h 0 h0;rcases hR with⟨a,b,c|⟨c,d,n⟩⟩|⟨a,b,l,gb,vd,c,u,v,q⟩
 .exact .inl ⟨a,b,.inl (c.congr h0 h)⟩
 .exact .inl ⟨a,b,.inr ⟨c,d.congr h0 h,λ⟨l,hl⟩=>n ⟨l,hl.congr h0 h'⟩⟩⟩
 .rw[e0]at v q;exact .inr ⟨a,b.congr h0 h,l,gb,vd,c.congr h0 h,λl' FI=>u l' (FI.congr h0 h'),v,q⟩
theorem ai3{sh:Nat->xG}{vb:ai}{e:Nat}{w:ah}(hR:Zi 0 sh vb e w):e=12/\vb=.slice none 0 0:=by
 have hA:BH 0 sh:=λi hi=>absurd hi ag
 have hD:¬Dup 0 sh:=λ⟨t,h,_⟩=>absurd h ag;rcases hR with⟨a,b,c|⟨_,d,_⟩⟩|⟨_,d,_⟩
 .rcases c with⟨_,x⟩|⟨_,_,x⟩|⟨x,_⟩|⟨x,_⟩
  .exact absurd hA x
  .exact absurd x hD
  .exact⟨x,b⟩
  .exact absurd x a
 .rcases d with⟨x,_⟩|⟨x,_⟩|⟨x,_⟩|⟨_,_,_,x,_⟩
  .cases x
  .cases x
  .cases x
  .omega
 .rcases d with⟨x,_⟩|⟨x,_⟩|⟨x,_⟩|⟨_,_,_,x,_⟩
  .cases x
  .cases x
  .cases x
  .omega
section
variable {K N C m:Nat}{f:Nat->qX}{d:qX->ak}
end
theorem ZF{w:ah}{K N C m pb cap:Nat}{f:Nat->qX}{Dt:Nat->ak}{vb:ai}{bo:aY}(hS:WL K N C m f Dt pb vb w)(h:WX w bo m cap f (Ld Dt)):BlS w bo m (λi=>(f i).k) (λi=>Ld Dt (f i)) (λi=>(f i).d):=by
 refine⟨λhm=>?_,λi hi=>?_⟩
 .obtain⟨b,o,h1,_,h3⟩:=h.bc.here hm;exact⟨b,o,h1,h3⟩
 .obtain⟨B,hB⟩:=hS.dat i hi;have:=hS.hm;rw[NC Dt ag (hS.nm i hi)];exact qU.owned hB
end Go.Proofs.Y
namespace Go.Proofs.Y
open Go.RowKit Go.Deep
def vl:ak->Nat
 |[]=>0
 |b::l=>b.toNat+256*vl l
theorem abg:∀l:ak,vl l<2^(8*l.length)
 |[]=>by simp[vl]
 |b::l=>by have h:=abg l;have hb:=b.toNat_lt;rw[show 8*(b::l).length=8*l.length+8 by simp;omega,Nat.pow_add,vl];omega
theorem adC:∀a b:ak,vl (a++b)=vl a+2^(8*a.length)*vl b
 |[],b=>by simp[vl]
 |x::a,b=>by rw[bT,vl,adC a b,vl,show 8*(x::a).length=8*a.length+8 by simp;omega,Nat.pow_add,show(2:Nat)^8=256 from rfl,Nat.mul_add,<-Nat.mul_assoc,gu 256 (2^(8*a.length)),dW]
theorem ai4:∀a b:ak,a.length=b.length->vl a=vl b->a=b
 |[],[],_,_=>rfl
 |[],_::_,h,_=>by simp at h
 |_::_,[],h,_=>by simp at h
 |x::a,y::b,h,e=>by have hx:=x.toNat_lt;have hy:=y.toNat_lt;rw[vl,vl]at e;have e1:x.toNat=y.toNat:=ag;rw[ai4 a b mD ag,UInt8.toNat_inj.1 e1]
theorem ZG:∀n v,v<2^(8*n)->vl (u_ n v)=v
 |0,v,h=>by simp at h;simp[u_,vl,h]
 |n+1,v,h=>by
  have e:(2:Nat)^(8*(n+1))=256*2^(8*n):=by rw[show 8*(n+1)=8+8*n by omega,Nat.pow_add]
  rw[e]at h;rw[u_,vl,ZG n (v/256) ag,fP];omega
theorem JF{b:Nat}(y:Nat)(hb:b<256):b+256*y=b^^^(256*y):=by
 apply oZ;intro i;rw[jy,show 256*y+b=2^8*y+b from rfl,Nat.testBit_two_pow_mul_add _ hb,Nat.testBit_xor,show 256*y=2^8*y from rfl,Nat.testBit_two_pow_mul];by_cases hi:i<8
 .simp[hi,Nat.not_le.2 hi]
 .have h8:8<=i:=ag;rw[au hi,Nat.testBit_lt_two_pow (x:=b) (i:=i) (bG hb (by rw[show(256:Nat)=2^8 from rfl];exact kN ag h8))];simp[h8]
theorem ZH:∀n v,zq n (2^n*v)=v
 |0,v=>by simp[zq]
 |n+1,v=>by rw[zq,show 2^(n+1)*v=2*(2^n*v)by rw[jd,gu (2^n) 2,Nat.mul_assoc],Yk,ZH n]
theorem ZI:∀(l:ak)(v:Nat),Jb v (l.map UInt8.toNat)=zq (8*l.length) (v^^^vl l)
 |[],v=>(bI (zq 0) (nI v)).symm
 |b::l,v=>by rw[gU,Lp,ZI l,show 8*(b::l).length=8+8*l.length by simp;omega,OY,vl,JF _ b.toNat_lt,<-dG,OZ 8 (v^^^b.toNat),show 256*vl l=2^8*vl l from rfl,ZH];rfl
theorem abh:∀(a b:aA)(v:Nat),Jb v (a++b)=Jb (Jb v a) b
 |[],_,_=>rfl
 |x::a,b,v=>by rw[bT,Lp,abh a b,Lp]
theorem amn(a b:Nat):a^^^(b^^^a)=b:=by rw[jv b,<-dG,jc,Nat.zero_xor]
theorem abj(l:ak):Jb zt ((rJ l).map UInt8.toNat)=zq 64 zt:=by have hR:Jb zt (l.map UInt8.toNat)<2^64:=afk _ Lr (by intro b hb;obtain⟨x,_,rfl⟩:=gz.1 hb;exact x.toNat_lt);rw[rJ,jh,abh,ZI (u_ 8 (sumOf l)),ru,ZG 8 _ (JG l)];unfold sumOf crc;rw[<-afl hR,amn]
theorem agD{v:Nat}(hv:v<2^64)(h:U7 v=0):v=0:=by
 unfold U7 at h;split at h
 .have e:v/2=agE:=by
   have:=bI (· ^^^agE) h;simpa[dG]using this
  have:agE≥2^63:=aC;omega
 .omega
theorem Yl:∀n v,v<2^64->zq n v=0->v=0
 |0,_,_,h=>h
 |n+1,_,hv,h=>agD hv (Yl n _ (afm hv) h)
def Bst(x:Nat):Prop:=∃s p,p<2^64/\x=2^s*p
theorem Bst.div{x:Nat}(h:Bst x)(k:Nat):Bst (x/2^k):=by
 obtain⟨s,p,hp,rfl⟩:=h;rcases bJ s k with q|q
 .refine⟨0,p/2^(k-s),jw (Nat.div_le_self _ _) hp,?_⟩;rw[show k=s+(k-s)by omega,Nat.pow_add,Nat.mul_div_mul_left _ _ (Nat.two_pow_pos s),show s+(k-s)-s=k-s by omega];simp
 .refine⟨s-k,p,hp,?_⟩;rw[show 2^s*p=2^k*(2^(s-k)*p)by rw[<-Nat.mul_assoc,<-Nat.pow_add,show k+(s-k)=s by omega],Nat.mul_div_cancel_left _ (Nat.two_pow_pos k)]
theorem Bst.mod{x:Nat}(h:Bst x)(k:Nat):Bst (x%2^k):=by
 obtain⟨s,p,hp,rfl⟩:=h;rcases bJ k s with q|q
 .refine⟨0,0,aC,?_⟩;rw[show 2^s*p=2^k*(2^(s-k)*p)by rw[<-Nat.mul_assoc,<-Nat.pow_add,show k+(s-k)=s by omega],Nat.mul_mod_right]
 .refine⟨s,p%2^(k-s),jw (Nat.mod_le _ _) hp,?_⟩;rw[show 2^k=2^s*2^(k-s)by rw[<-Nat.pow_add,show s+(k-s)=k by omega],Nat.mul_mod_mul_left]
theorem Bst.zero{x n:Nat}(h:Bst x)(hx:x<2^n)(h0:zq n x=0):x=0:=by
 obtain⟨s,p,hp,rfl⟩:=h;rcases fE p with rfl|q
 .simp
 have hs:s<n:=by
  rcases bJ s n with r|r
  .exact r
  .have h1:2^n<=2^s:=kN ag r;have h2:2^s*1<=2^s*p:=nK _ q;omega
 rw[show n=s+(n-s)by omega,OY,ZH]at h0;rw[Yl _ _ hp h0,Nat.mul_zero]
theorem amo(a b k:Nat):(a^^^b)/2^k=a/2^k^^^b/2^k:=by have:=oM (a:=a) (b:=b) (i:=k);simpa[oO]using this
theorem ai5(x a y:ak):vl (x++(a++y))/2^(8*x.length)%2^(8*a.length)=vl a:=by rw[adC,jy,Nat.mul_add_div (Nat.two_pow_pos _),lM (abg x),gy,adC,jy,Nat.mul_add_mod,cu (abg a)]
theorem amq{a b:Nat}(h:a^^^b=0):a=b:=by have:=bI (· ^^^b) h;simpa[dG]using this
theorem piece{x x' y y' l l':ak}(h1:x.length=x'.length)(h2:l.length=l'.length)(hB:Bst (vl (x++(rJ l++y))^^^vl (x'++(rJ l'++y')))):l=l':=by
 have hl:(rJ l).length=(rJ l').length:=by rw[tu,tu,h2]
 have hb:=(hB.div (8*x.length)).mod (8*(rJ l).length);rw[amo,avP,ai5,h1,hl,ai5]at hb
 have e:zq (8*(rJ l).length) (vl (rJ l)^^^vl (rJ l'))=0:=by have r1:=abj l;have r2:=abj l';rw[ZI]at r1 r2;rw[<-hl]at r2;have:=OZ (8*(rJ l).length) (zt^^^vl (rJ l)) (zt^^^vl (rJ l'));rw[r1,r2,jc,abk,jc,Nat.zero_xor]at this;exact this
 have e2:=hb.zero (n:=8*(rJ l).length) (iQ (abg _) (by rw[hl];exact abg _)) e;have e3:=ai4 _ _ hl (amq e2);exact(List.append_inj e3 h2).1
theorem ZJ{n a b:Nat}(ha:a<2^(8*n))(hb:b<2^(8*n))(h:u_ n a=u_ n b):a=b:=by rw[<-ZG n a ha,<-ZG n b hb,h]
theorem ao5{s s':Sh}(hF:s.L8)(hF':s'.L8)(hW:s.Few)(hW':s'.Few)(hc:s.qH.length<=65536)(hc':s'.qH.length<=65536)
  (hB:Bst (vl (Jm s)^^^vl (Jm s'))):Jm s=Jm s':=by
 unfold Jm at hB⊢;simp only[fK]at hB⊢;have e1:uo s (yD s).length=uo s' (yD s').length:=piece (x:=[]) (x':=[]) rfl (by rw[GG,GG]) hB;have m1:=CX s;have m2:=CX s';have m3:=hW.OD;have m4:=hW'.OD;have c1:=hF.c2;have c2:=hF'.c2;have c3:=hF.c1;have c4:=hF'.c1;have q:=e1;unfold uo at q;have q1:=(List.append_inj q rfl).2;have q2:=(List.append_inj q1 rfl).2;have q3:=List.append_inj q2 (by rw[ru,ru]);have q4:=List.append_inj q3.2 (by rw[ru,ru]);have q5:=List.append_inj q4.2 (by rw[ru,ru]);have hC:s.C.toNat=s'.C.toNat:=ZJ ag ag q3.1;have hM:(yD s).length=(yD s').length:=ZJ ag ag q4.1;have hL:s.qH.length=s'.qH.length:=ZJ ag ag q5.1
 have e2:yD s=yD s':=by refine piece (x:=rJ (uo s (yD s).length)) (x':=rJ (uo s' (yD s').length)) (by rw[e1]) hM hB
 have e3:∀i,i<=Hu s.C.toNat s.qH.length->su s.C.toNat s.qH i=su s'.C.toNat s'.qH i:=by
  intro i
  induction i with
  |zero=>intro _;rfl
  |succ i ih=>
   intro hi;have ih:=ih ag
   have hs:∀(c:Nat)(qH:ak)(n:Nat),i+1<=n->∃y,su c qH n=su c qH i++(yt c qH i++y):=by
    intro c qH n hn
    induction n with
    |zero=>omega
    |succ n ihn=>
     rcases bJ i n with r|r
     .obtain⟨y,hy⟩:=ihn ag;exact⟨y++yt c qH n,by rw[yg,hy];simp⟩
     .have:n=i:=ag;subst this;exact⟨[],by rw[yg];simp⟩
   obtain⟨y,hy⟩:=hs s.C.toNat s.qH _ hi;obtain⟨y',hy'⟩:=hs s'.C.toNat s'.qH (Hu s'.C.toNat s'.qH.length) (by rw[<-hC,<-hL];exact hi);rw[yg,yg,ih]
   congr 1
   rw[hy,hy']at hB;unfold yt at hB⊢
   congr 1
   have g:=QF (c:=s.C.toNat) (n:=s.qH.length) (k:=i) ag;have qK:=g.1 ag;refine piece (x:=rJ (uo s (yD s).length)++(rJ (yD s)++su s.C.toNat s.qH i)) (x':=rJ (uo s' (yD s').length)++(rJ (yD s')++su s'.C.toNat s'.qH i)) (y:=y++[68,79,78,69]) (y':=y'++[68,79,78,69]) (by rw[e1,e2,ih]) ?_ ?_
   .rw[qN ag,qN (by rw[<-hC,<-hL];omega),hC,hL]
   .simpa only[fK]using hB
 rw[e1,e2,e3 _ (az _),hC,hL]
theorem Ym{s:Sh}(hF:s.L8)(hW:s.Few)(hG:s.OC){z:ak}(hB:Bst (vl (Jm s)^^^vl z))(hne:z≠Jm s):∃e,qY z=.error e:=by
 cases h:qY z with
 |error e=>exact⟨e,rfl⟩
 |ok d=>
  exfalso;obtain⟨f1,_,f3,f4,_,rfl⟩:=Yn h
  have cl:∀t:Sh,t.L8->t.Few->t.OC->t.qH.length<=65536:=by intro t tf tw tl;have h1:=D5 (k:=t.K.toNat) (t:=Fv t.zs) (by have:=tf.k1;omega);have h2:=tw.bytes;have h3:t.qH.length=_:=tl;omega
  exact hne (ao5 hF f1 hW f3 (cl _ hF hW hG) (cl _ f1 f3 f4) hB).symm
theorem ai6{b k:Nat}(y:Nat)(hb:b<2^k):b+2^k*y=b^^^(2^k*y):=by
 apply oZ;intro i;rw[jy,Nat.testBit_two_pow_mul_add _ hb,Nat.testBit_xor,Nat.testBit_two_pow_mul];by_cases hi:i<k
 .simp[hi,Nat.not_le.2 hi]
 .have h8:k<=i:=ag;rw[au hi,Nat.testBit_lt_two_pow (x:=b) (i:=i) (bG hb (kN ag h8))];simp[h8]
theorem ZK(k a b:Nat):2^k*(a^^^b)=2^k*a^^^2^k*b:=by have:=Nat.shiftLeft_xor_distrib (a:=a) (b:=b) (i:=k);simpa[Nat.shiftLeft_eq,gu]using this
def flip(l:ak)(q r:Nat):ak:=l.set q (UInt8.ofNat (tZ l q^^^2^r))
theorem ai7(l:ak)(q r:Nat):(flip l q r).length=l.length:=by simp[flip]
theorem abl{b r:Nat}(hb:b<256)(hr:r<8):b^^^2^r<256:=iQ (n:=8) hb (Nat.pow_lt_pow_right ag hr)
theorem amr(l:ak)(q j:Nat)(x:UInt8)(hq:q<l.length):tZ (l.set q x) j=if j=q then x.toNat else tZ l j:=by
 simp only[tZ,bH,lZ];by_cases e:q=j
 .subst e;simp[hq]
 .rw[au e,au (λh=>e h.symm)]
theorem ams(l:ak)(q r j:Nat)(hq:q<l.length)(hr:r<8):tZ (flip l q r) j=if j=q then tZ l q^^^2^r else tZ l j:=by rw[flip,amr _ _ _ _ hq,fP,cu (abl (EG _ _) hr)]
theorem afn:∀(l:ak)(q r:Nat),q<l.length->r<8->vl (flip l q r)=vl l^^^2^(8*q+r)
 |[],_,_,h,_=>by simp at h
 |b::l,0,r,_,hr=>by have e:flip (b::l) 0 r=UInt8.ofNat (b.toNat^^^2^r)::l:=rfl;have hx:=abl b.toNat_lt hr;rw[e,vl,fP,cu hx,JF _ hx,vl,JF _ b.toNat_lt,Nat.mul_zero,bM,dG,jv (2^r),dG]
 |b::l,q+1,r,h,hr=>by have e:flip (b::l) (q+1) r=b::flip l q r:=rfl;rw[e,vl,afn l q r mD hr,vl,show 256*(vl l^^^2^(8*q+r))=2^8*(vl l^^^2^(8*q+r))from rfl,ZK,show 8*(q+1)+r=8+(8*q+r)by omega,Nat.pow_add 2 8,JF (vl l) b.toNat_lt,dG,show 256*vl l=2^8*vl l from rfl,<-ZK];exact JF _ b.toNat_lt
theorem abm(p i:Nat):p%2^(i+1)=if p/2^i%2=1 then p%2^i^^^2^i else p%2^i:=by
 have h:=Nat.mod_mul (x:=p) (a:=2^i) (b:=2);rw[<-jd]at h;have h2:p/2^i%2=0\/p/2^i%2=1:=ag;have hl:=iR p (Nat.two_pow_pos i);rcases h2 with e|e
 .rw[au ag,h,e,Nat.mul_zero,gy]
 .rw[ay e,h,e,ai6 1 hl,je]
theorem amu{p t:Nat}(hp:p%2=1)(ht:1<=t):p%2^t≠0:=by
 intro h;have h3:2∣2^t:=by simpa using Nat.pow_dvd_pow 2 ht
 have h2:p%2^t%2=p%2:=Nat.mod_mod_of_dvd p h3;omega
theorem amv(y:Int):∃p:Nat,bits .or .u64 (IntKind.u64.wrap y) 1=(p:Int)/\p<18446744073709551616/\p%2=1:=by
 obtain⟨a,ha,qK⟩:∃a:Nat,IntKind.u64.wrap y=(a:Int)/\a<18446744073709551616:=by have h:=wrap_within .u64 y;have e1:IntKind.u64.min=0:=aC;have e2:IntKind.u64.max=18446744073709551615:=aC;exact⟨(IntKind.u64.wrap y).toNat,ag,ag⟩
 rw[ha];have:=bits_or_u64_nat a 1 qK ag;refine⟨a|||1,by simpa using this,Nat.or_lt_two_pow (n:=64) qK ag,?_⟩;rw[show(a|||1)%2=(a|||1)%2^1 from rfl,Nat.or_mod_two_pow];have h2:a%2=0\/a%2=1:=ag;rcases h2 with e|e<;>simp[e]
theorem ai8(l:ak)(v:ai)(w:ah)(h:qU w v (sJ l))(h0:0<l.length)(hl:l.length<=10000000000)(x y:Int)(hx:Jg x):
  Calls Tryz.prog 13 #[v,.int .i64 x,.int .i64 y] w λr w'=>∃l',r=.returned (.slice (some ⟨w.heap.size,0,none⟩) l.length l.length)/\w'.rowIs w.heap.size 5 l.length (λj=>.int .u8 ((tZ l' j:Nat):Int))/\Below w.heap.size w w'/\w.heap.size<w'.heap.size/\l'.length=l.length/\Bst (vl l^^^vl l')/\l'≠l:=by
 have hlv:∃ba cap,v=.slice ba l.length cap:=by obtain⟨ba,cap,rfl,_⟩:=h;exact⟨ba,cap,eX⟩
 obtain⟨L,hL⟩:∃L,L=l.length:=⟨_,rfl⟩;rw[<-hL]at h0 hl hlv⊢
 have hm1:∀w:ah,(Instr.makeSlice 34 (.int .i64 ((L:Nat):Int)) (.int .i64 ((L:Nat):Int))).run Tryz.prog w=.ok (.slice (some ⟨w.heap.size,0,none⟩) L L) (w.alloc (.cells (madeCells #[.int .u8 0] L) 5)):=
  λw=>run_make_row' (P:=Tryz.prog) 34 5 (.int .u8 0) 1 Tryz.underlying34 Tryz.ae8 rfl .i64 .i64 L ag ag w
 have z1:=World.rowIs_made w (.int .u8 0) L 5;have b1:Below w.heap.size w (w.alloc (.cells (madeCells #[.int .u8 0] L) 5)):=(aT _ _).alloc (az _) _;have s1:(w.alloc (.cells (madeCells #[.int .u8 0] L) 5)).heap.size=w.heap.size+1:=ax;obtain⟨w2,hcp,r2,o2,s2,h2a,h2b,h2c⟩:=aaX _ w.heap.size L v l (h.below b1) ag z1;have b2:Below w.heap.size w w2:=⟨h2a,h2b,h2c,ag,λb hb=>axy⟩;have aoB:=hm1 w;obtain⟨p,EE,CE,hp3⟩:=amv y;have kp:=Dq x (8*L) (8*(L:Int)) ag hx.1 hx.2 ag ag;have hat:yI x (8*L)<8*L:=yH x ag;generalize yI x (8*L)=at_ at kp hat;obtain⟨ba,cap,rfl⟩:=hlv;rw[<-hL]at hcp;generalize madeCells #[.int .u8 0] L=Z1 at*;have zU:w.heap.size<w2.heap.size:=ag;have hL1:L<=l.length:=ag;have hL2:l.length<=L:=ag;clear hm1 s1 o2 s2 h2a h2b h2c z1 b1 h hL;go_enter Tryz.func13,Tryz.ntmps13
 go_wp2_with(first|(go_at_call 10;(with_reducible refine(kp _).mono ?_);rintro e w' ⟨rfl,uf⟩;obtain rfl:=uf.symm))
 clear hcp aoB kp
 go_loopw [10] (λvi wr=>∃(i:Nat)(l':ak),i<=64/\at_+i<=8*L/\vi=.int .i64 (i:Int)/\l'.length=L/\vl l'=vl l^^^2^at_*(p%2^i)/\wr.rowIs w.heap.size 5 L (λj=>.int .u8 ((tZ l' j:Nat):Int))/\Below w.heap.size w wr/\w.heap.size<wr.heap.size) (λi _=>64-(intOf i).toNat)
 case atStart=>exact⟨0,l,ag,ag,rfl,ag,by simp[Nat.mod_one],r2,b2,zU⟩
 case round=>
  clear r2 b2 zU;obtain⟨i,l',hi,hai,rfl,FI,hv,hR,hb,hs⟩:=hrel;by_cases qK:i<64/\at_+i<8*L
  .have alo:(i:Int)<64:=ag;have aaG:(at_:Int)+(i:Int)<8*(L:Int):=ag;obtain⟨q,r,hqr,hr8⟩:∃q r,at_+i=8*q+r/\r<8:=⟨(at_+i)/8,(at_+i)%8,ag,ag⟩;have hqL:q<L:=ag;have hql:(q:Int)<(L:Int):=ag;have c1:=hR.cell hqL;have fz:=hR.frozen q;have hbx:=EG l' q;have h2:p/2^i%2=0\/p/2^i%2=1:=ag
   have alp:bits .and .u64 ((p:Int)/2^i) 1=((p/2^i%2:Nat):Int):=by have:=bits_and_u64_nat (p/2^i) 1 (jw (Nat.div_le_self _ _) CE) ag;rw[Nat.and_one_is_mod]at this;exact ayh
   rcases h2 with e|e
   .rw[e]at alp;go_wp2;refine⟨⟨i+1,l',ag,ag,ax,FI,?_,hR,hb,hs⟩,gG⟩;rw[hv,abm,au ag]
   .rw[e]at alp;have d0:IntKind.i64.wrap ((at_:Int)+(i:Int))=(at_:Int)+(i:Int):=iw;have d1:((at_:Int)+(i:Int)).tdiv 8=(q:Int):=by rw[av3 ag];omega
    have d2:((at_:Int)+(i:Int)).tmod 8=(r:Int):=by rw[Int.tmod_eq_emod_of_nonneg ag];omega
    have d3:IntKind.i64.wrap (q:Int)=(q:Int):=iw;have h2r:2^r<256:=Nat.pow_lt_pow_right (a:=2) (n:=8) ag hr8
    have d4:IntKind.u8.wrap ((2:Int)^r)=((2^r:Nat):Int):=by have:((2:Int)^r)=((2^r:Nat):Int):=ax;rw[this];generalize 2^r=t at h2r;exact IntWalk.u8_in _ ag
    have Nq:(r:Int)<=8:=ag;generalize WR:tZ l' q=bb at c1 hbx;have d5:=u8_xor_nat bb (2^r) hbx h2r
    go_wp2_with fail
    refine EO 18 mixed aj ?_;simp only[pg,lT,pI,l9]
    repeat still_step
    refine wpStill_nil ?_;have Fz:=hR.set q (.int .u8 ((bb^^^2^r:Nat):Int))
    have WN:=Fz.congr (g:=λj=>.int .u8 ((tZ (flip l' q r) j:Nat):Int)) (λj _=>by
     rw[ams l' q r j ag hr8,WR];by_cases ej:j=q
     .rw[ay ej,ay ej]
     .rw[au ej,au ej])
    have wI:=hb.setCell (p:=⟨w.heap.size,q,none⟩) (az _) (.int .u8 ((bb^^^2^r:Nat):Int))
    have hv3:vl (flip l' q r)=vl l^^^2^at_*(p%2^(i+1)):=by rw[afn l' q r ag hr8,hv,abm,ay e,ZK,<-Nat.pow_add,hqr,dG]
    have hl3:(flip l' q r).length=L:=by rw[ai7,FI]
    clear hR Fz hb hv FI WR;have xI:w.heap.size<(wr.setCell ⟨w.heap.size,q,none⟩ (.int .u8 ((bb^^^2^r:Nat):Int))).heap.size:=by simp;exact hs
    have d6:bits .xor .u8 (bb:Int) ((2:Int)^r)=((bb^^^2^r:Nat):Int):=by rw[<-d5];simp
    go_wp2;exact⟨⟨i+1,flip l' q r,ag,ag,ax,hl3,hv3,WN,⟨wI.os,wI.tape,wI.output,wI.size,wI.block⟩,xI⟩,gG⟩
  .have Am:¬((i:Int)<64)\/¬((at_:Int)+(i:Int)<8*(L:Int)):=ag;have ht:1<=i:=ag
   have fin:∃l':ak,wr.rowIs w.heap.size 5 L (λj=>.int .u8 ((tZ l' j:Nat):Int))/\l'.length=L/\Bst (vl l^^^vl l')/\l'≠l:=by
    refine⟨l',hR,FI,?_,?_⟩
    .rw[hv,<-dG,jc,Nat.zero_xor];exact⟨at_,p%2^i,jw (Nat.mod_le _ _) CE,rfl⟩
    .intro e;rw[e]at hv
     have h1:2^at_*(p%2^i)=0:=by have:=bI (vl l^^^ ·) hv;simp only[jc,<-dG,Nat.zero_xor]at this;exact this.symm
     rcases Nat.mul_eq_zero.1 h1 with h2|h2
     .exact absurd h2 (Nat.ne_of_gt (Nat.two_pow_pos _))
     .exact amu hp3 ht h2
   obtain⟨l2,g1,g2,g3,g4⟩:=fin;rcases Am with q|q
   .exact ayT
   .by_cases q1:(i:Int)<64
    .exact ayT
    .exact ayT
end Go.Proofs.Y
namespace Go.Proofs.Y
open Go.RowKit Go.Deep Go.Hp
def okX(bad n:Nat):aA:=(List.range n).filter λi=>bad/2^i%2==0
theorem abn(bad n:Nat):okX bad (n+1)=if bad/2^n%2=0 then okX bad n++[n]else okX bad n:=by
 rw[okX,dZ,List.filter_append];by_cases h:bad/2^n%2=0
 .rw[ay h];simp[okX,h]
 .rw[au h];simp[okX,h]
section
variable {K N C m:Nat}{f:Nat->qX}{d:qX->ak}
theorem afo{bad:Nat}{sb:Nat->ak}{s:Nat->xG}:∀n,(∀i,i<n->if bad/2^i%2=0 then qY (sb i)=.ok (s i)else∃e,qY (sb i)=.error e)->Nw sb n=(okX bad n).map s
 |0,_=>rfl
 |n+1,h=>by
  have ih:=afo n λi hi=>h i ag
  have hn:=h n ag;rw[abn];by_cases q:bad/2^n%2=0
  .rw[ay q]at hn⊢;rw[ah2 hn,ih,jh];rfl
  .rw[au q]at hn⊢;obtain⟨e,he⟩:=hn;rw[ah1 he,ih]
