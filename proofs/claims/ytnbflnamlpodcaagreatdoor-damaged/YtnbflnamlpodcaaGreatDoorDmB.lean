import Derived.Test.YtnbflnamlpodcaaGreatDoorSmG
set_option maxHeartbeats 2000000
set_option maxRecDepth 100000
namespace Go.Proofs.Y
open Go.RowKit Go.Deep Go.Lf Go.Conc Go.ConcN Go.Gh Go.Hp
theorem FX.congr{M:Nat}{sh sh':Nat->xg}{e:Nat}(h0:0<M)(h:∀i,i<M->sh i=sh' i)(hE:FX M sh e):FX M sh' e:=by
 have hA:CX M sh->CX M sh':=λx i hi=>by rw[<-h 0 h0,<-h i hi];exact x i hi
 have hA':CX M sh'->CX M sh:=λx i hi=>by rw[h 0 h0,h i hi];exact x i hi
 have hD:Dup M sh->Dup M sh':=λ⟨t,h1,h2⟩=>⟨t,h1,by rw[<-h _ h1,<-h t ae];exact h2⟩;have hD':Dup M sh'->Dup M sh:=λ⟨t,h1,h2⟩=>⟨t,h1,by rw[h _ h1,h t ae];exact h2⟩;have e0:=h 0 h0;rcases hE with⟨a,b⟩|⟨a,b,c⟩|⟨a,b,c,d⟩|⟨a,b,c,d,e⟩
 .exact .inl ⟨a,λx=>b (hA' x)⟩
 .exact .inr (.inl ⟨a,hA b,hD c⟩)
 .exact .inr (.inr (.inl ⟨a,hA b,λx=>c (hD' x),by rw[<-e0];exact d⟩))
 .exact .inr (.inr (.inr ⟨a,hA b,λx=>c (hD' x),d,by rw[<-e0];exact e⟩))
theorem Lj.congr{M:Nat}{sh sh':Nat->xg}{l:List UInt8}(h0:0<M)(h:∀i,i<M->sh i=sh' i)(hF:Lj M sh l):Lj M sh' l:=by have e0:=h 0 h0;obtain⟨h1,h2⟩:=hF;rw[e0]at h1 h2;exact⟨h1,λt ht=>by rw[<-h t ht];exact h2 t ht⟩
theorem YD.congr{M:Nat}{sh sh':Nat->xg}{vb:Value}{e:Nat}{w:World}(h0:0<M)(h:∀i,i<M->sh i=sh' i)(hR:YD M sh vb e w):YD M sh' vb e w:=by
 have h':∀i,i<M->sh' i=sh i:=λi hi=>(h i hi).symm
 have e0:=h 0 h0;rcases hR with⟨a,b,c|⟨c,d,n⟩⟩|⟨a,b,l,gb,vd,c,u,v,q⟩
 .exact .inl ⟨a,b,.inl (c.congr h0 h)⟩
 .exact .inl ⟨a,b,.inr ⟨c,d.congr h0 h,λ⟨l,hl⟩=>n ⟨l,hl.congr h0 h'⟩⟩⟩
 .rw[e0]at v q;exact .inr ⟨a,b.congr h0 h,l,gb,vd,c.congr h0 h,λl' Fg=>u l' (Fg.congr h0 h'),v,q⟩
theorem aim{sh:Nat->xg}{vb:Value}{e:Nat}{w:World}(hR:YD 0 sh vb e w):e=12/\vb=.slice none 0 0:=by
 have hA:CX 0 sh:=λi hi=>absurd hi ae
 have hD:¬Dup 0 sh:=λ⟨t,h,_⟩=>absurd h ae;rcases hR with⟨a,b,c|⟨_,d,_⟩⟩|⟨_,d,_⟩
 .rcases c with⟨_,x⟩|⟨_,_,x⟩|⟨x,_⟩|⟨x,_⟩
  .exact absurd hA x
  .exact absurd x hD
  .exact⟨x,b⟩
  .exact absurd x a
 .rcases d with⟨x,_⟩|⟨x,_⟩|⟨x,_⟩|⟨_,_,_,x,_⟩
  .cases x
  .cases x
  .cases x
  .omega
 .rcases d with⟨x,_⟩|⟨x,_⟩|⟨x,_⟩|⟨_,_,_,x,_⟩
  .cases x
  .cases x
  .cases x
  .omega
section
variable {K N C m:Nat}{f:Nat->qY}{d:qY->List UInt8}
end
theorem alN{w:World}{K N C m pb cap:Nat}{f:Nat->qY}{Dt:Nat->List UInt8}{vb:Value}{bo:Option Addr}(hS:SmP K N C m f Dt pb vb w)(h:YF w bo m cap f (dOf Dt)):BlS w bo m (λi=>(f i).k) (λi=>dOf Dt (f i)) (λi=>(f i).d):=by
 refine⟨λhm=>?_,λi hi=>?_⟩
 .obtain⟨b,o,h1,_,h3⟩:=h.bc.here hm;exact⟨b,o,h1,h3⟩
 .obtain⟨B,hB⟩:=hS.dat i hi;have:=hS.hm;rw[ain Dt ae (hS.nm i hi)];exact qR.owned hB
end Go.Proofs.Y
namespace Go.Proofs.Y
open Go.RowKit Go.Deep
def vl:List UInt8->Nat
 |[]=>0
 |b::l=>b.toNat+256*vl l
theorem aaF:∀l:List UInt8,vl l<2^(8*l.length)
 |[]=>by simp[vl]
 |b::l=>by have h:=aaF l;have hb:=b.toNat_lt;rw[show 8*(b::l).length=8*l.length+8 by simp;omega,Nat.pow_add,vl];omega
theorem ac2:∀a b:List UInt8,vl (a++b)=vl a+2^(8*a.length)*vl b
 |[],b=>by simp[vl]
 |x::a,b=>by rw[aV,vl,ac2 a b,vl,show 8*(x::a).length=8*a.length+8 by simp;omega,Nat.pow_add,show(2:Nat)^8=256 from rfl,Nat.mul_add,<-Nat.mul_assoc,eX 256 (2^(8*a.length)),dw]
theorem aio:∀a b:List UInt8,a.length=b.length->vl a=vl b->a=b
 |[],[],_,_=>rfl
 |[],_::_,h,_=>by simp at h
 |_::_,[],h,_=>by simp at h
 |x::a,y::b,h,e=>by have hx:=x.toNat_lt;have hy:=y.toNat_lt;rw[vl,vl]at e;have e1:x.toNat=y.toNat:=ae;rw[aio a b kZ ae,UInt8.toNat_inj.1 e1]
theorem YS:∀n v,v<2^(8*n)->vl (uP n v)=v
 |0,v,h=>by simp at h;simp[uP,vl,h]
 |n+1,v,h=>by
  have e:(2:Nat)^(8*(n+1))=256*2^(8*n):=by rw[show 8*(n+1)=8+8*n by omega,Nat.pow_add]
  rw[e]at h;rw[uP,vl,YS n (v/256) ae,dW];omega
theorem Je{b:Nat}(y:Nat)(hb:b<256):b+256*y=b^^^(256*y):=by
 apply nN;intro i;rw[iQ,show 256*y+b=2^8*y+b from rfl,Nat.testBit_two_pow_mul_add _ hb,Nat.testBit_xor,show 256*y=2^8*y from rfl,Nat.testBit_two_pow_mul];by_cases hi:i<8
 .simp[hi,Nat.not_le.2 hi]
 .have h8:8<=i:=ae;rw[ah hi,Nat.testBit_lt_two_pow (x:=b) (i:=i) (aK hb (by rw[show(256:Nat)=2^8 from rfl];exact jh ae h8))];simp[h8]
theorem YT:∀n v,yS n (2^n*v)=v
 |0,v=>by simp[yS]
 |n+1,v=>by rw[yS,show 2^(n+1)*v=2*(2^n*v)by rw[iO,eX (2^n) 2,Nat.mul_assoc],XF,YT n]
theorem YU:∀(l:List UInt8)(v:Nat),Iy v (l.map UInt8.toNat)=yS (8*l.length) (v^^^vl l)
 |[],v=>(aP (yS 0) (l7 v)).symm
 |b::l,v=>by rw[fE,J6,YU l,show 8*(b::l).length=8+8*l.length by simp;omega,N9,vl,Je _ b.toNat_lt,<-bJ,N_ 8 (v^^^b.toNat),show 256*vl l=2^8*vl l from rfl,YT];rfl
theorem aaG:∀(a b:List Nat)(v:Nat),Iy v (a++b)=Iy (Iy v a) b
 |[],_,_=>rfl
 |x::a,b,v=>by rw[aV,J6,aaG a b,J6]
theorem alO(a b:Nat):a^^^(b^^^a)=b:=by rw[iM b,<-bJ,iy,Nat.zero_xor]
theorem aaH(l:List UInt8):Iy yT ((rf l).map UInt8.toNat)=yS 64 yT:=by have hR:Iy yT (l.map UInt8.toNat)<2^64:=aeO _ J7 (by intro b hb;obtain⟨x,_,rfl⟩:=fA.1 hb;exact x.toNat_lt);rw[rf,iH,aaG,YU (uP 8 (sumOf l)),qU,YS 8 _ (IJ l)];unfold sumOf crc;rw[<-aeP hR,alO]
theorem afX{v:Nat}(hv:v<2^64)(h:Uw v=0):v=0:=by
 unfold Uw at h;split at h
 .have e:v/2=afY:=by
   have:=aP (· ^^^afY) h;simpa[bJ]using this
  have:afY≥2^63:=au;omega
 .omega
theorem XG:∀n v,v<2^64->yS n v=0->v=0
 |0,_,_,h=>h
 |n+1,_,hv,h=>afX hv (XG n _ (aeQ hv) h)
def Bst(x:Nat):Prop:=∃s p,p<2^64/\x=2^s*p
theorem Bst.div{x:Nat}(h:Bst x)(k:Nat):Bst (x/2^k):=by
 obtain⟨s,p,hp,rfl⟩:=h;rcases aQ s k with q|q
 .refine⟨0,p/2^(k-s),iP (Nat.div_le_self _ _) hp,?_⟩;rw[show k=s+(k-s)by omega,Nat.pow_add,Nat.mul_div_mul_left _ _ (Nat.two_pow_pos s),show s+(k-s)-s=k-s by omega];simp
 .refine⟨s-k,p,hp,?_⟩;rw[show 2^s*p=2^k*(2^(s-k)*p)by rw[<-Nat.mul_assoc,<-Nat.pow_add,show k+(s-k)=s by omega],Nat.mul_div_cancel_left _ (Nat.two_pow_pos k)]
theorem Bst.mod{x:Nat}(h:Bst x)(k:Nat):Bst (x%2^k):=by
 obtain⟨s,p,hp,rfl⟩:=h;rcases aQ k s with q|q
 .refine⟨0,0,au,?_⟩;rw[show 2^s*p=2^k*(2^(s-k)*p)by rw[<-Nat.mul_assoc,<-Nat.pow_add,show k+(s-k)=s by omega],Nat.mul_mod_right]
 .refine⟨s,p%2^(k-s),iP (Nat.mod_le _ _) hp,?_⟩;rw[show 2^k=2^s*2^(k-s)by rw[<-Nat.pow_add,show s+(k-s)=k by omega],Nat.mul_mod_mul_left]
theorem Bst.zero{x n:Nat}(h:Bst x)(hx:x<2^n)(h0:yS n x=0):x=0:=by
 obtain⟨s,p,hp,rfl⟩:=h;rcases dK p with rfl|q
 .simp
 have hs:s<n:=by
  rcases aQ s n with r|r
  .exact r
  .have h1:2^n<=2^s:=jh ae r;have h2:2^s*1<=2^s*p:=l_ _ q;omega
 rw[show n=s+(n-s)by omega,N9,YT]at h0;rw[XG _ _ hp h0,Nat.mul_zero]
theorem alP(a b k:Nat):(a^^^b)/2^k=a/2^k^^^b/2^k:=by have:=nH (a:=a) (b:=b) (i:=k);simpa[nI]using this
theorem aip(x a y:List UInt8):vl (x++(a++y))/2^(8*x.length)%2^(8*a.length)=vl a:=by rw[ac2,iQ,Nat.mul_add_div (Nat.two_pow_pos _),mf (aaF x),eY,ac2,iQ,Nat.mul_add_mod,aZ (aaF a)]
theorem alQ{a b:Nat}(h:a^^^b=0):a=b:=by have:=aP (· ^^^b) h;simpa[bJ]using this
theorem piece{x x' y y' l l':List UInt8}(h1:x.length=x'.length)(h2:l.length=l'.length)(hB:Bst (vl (x++(rf l++y))^^^vl (x'++(rf l'++y')))):l=l':=by
 have hl:(rf l).length=(rf l').length:=by rw[sO,sO,h2]
 have hb:=(hB.div (8*x.length)).mod (8*(rf l).length);rw[alP,atX,aip,h1,hl,aip]at hb
 have e:yS (8*(rf l).length) (vl (rf l)^^^vl (rf l'))=0:=by have r1:=aaH l;have r2:=aaH l';rw[YU]at r1 r2;rw[<-hl]at r2;have:=N_ (8*(rf l).length) (yT^^^vl (rf l)) (yT^^^vl (rf l'));rw[r1,r2,iy,aaI,iy,Nat.zero_xor]at this;exact this
 have e2:=hb.zero (n:=8*(rf l).length) (iC (aaF _) (by rw[hl];exact aaF _)) e;have e3:=aio _ _ hl (alQ e2);exact(List.append_inj e3 h2).1
theorem YV{n a b:Nat}(ha:a<2^(8*n))(hb:b<2^(8*n))(h:uP n a=uP n b):a=b:=by rw[<-YS n a ha,<-YS n b hb,h]
theorem aof{s s':Sh}(hF:s.O1)(hF':s'.O1)(hW:s.Few)(hW':s'.Few)(hc:s.qy.length<=65536)(hc':s'.qy.length<=65536)
  (hB:Bst (vl (RS s)^^^vl (RS s'))):RS s=RS s':=by
 unfold RS at hB⊢;simp only[dU]at hB⊢;have e1:ug s (x8 s).length=ug s' (x8 s').length:=piece (x:=[]) (x':=[]) rfl (by rw[FV,FV]) hB;have m1:=BP s;have m2:=BP s';have m3:=hW.NJ;have m4:=hW'.NJ;have c1:=hF.c2;have c2:=hF'.c2;have c3:=hF.c1;have c4:=hF'.c1;have q:=e1;unfold ug at q;have q1:=(List.append_inj q rfl).2;have q2:=(List.append_inj q1 rfl).2;have q3:=List.append_inj q2 (by rw[qU,qU]);have q4:=List.append_inj q3.2 (by rw[qU,qU]);have q5:=List.append_inj q4.2 (by rw[qU,qU]);have hC:s.C.toNat=s'.C.toNat:=YV ae ae q3.1;have hM:(x8 s).length=(x8 s').length:=YV ae ae q4.1;have hL:s.qy.length=s'.qy.length:=YV ae ae q5.1
 have e2:x8 s=x8 s':=by refine piece (x:=rf (ug s (x8 s).length)) (x':=rf (ug s' (x8 s').length)) (by rw[e1]) hM hB
 have e3:∀i,i<=GI s.C.toNat s.qy.length->rO s.C.toNat s.qy i=rO s'.C.toNat s'.qy i:=by
  intro i
  induction i with
  |zero=>intro _;rfl
  |succ i ih=>
   intro hi;have ih:=ih ae
   have hs:∀(c:Nat)(qy:List UInt8)(n:Nat),i+1<=n->∃y,rO c qy n=rO c qy i++(xK c qy i++y):=by
    intro c qy n hn
    induction n with
    |zero=>omega
    |succ n ihn=>
     rcases aQ i n with r|r
     .obtain⟨y,hy⟩:=ihn ae;exact⟨y++xK c qy n,by rw[xI,hy];simp⟩
     .have:n=i:=ae;subst this;exact⟨[],by rw[xI];simp⟩
   obtain⟨y,hy⟩:=hs s.C.toNat s.qy _ hi;obtain⟨y',hy'⟩:=hs s'.C.toNat s'.qy (GI s'.C.toNat s'.qy.length) (by rw[<-hC,<-hL];exact hi);rw[xI,xI,ih]
   congr 1
   rw[hy,hy']at hB;unfold xK at hB⊢
   congr 1
   have g:=PV (c:=s.C.toNat) (n:=s.qy.length) (k:=i) ae;have qE:=g.1 ae;refine piece (x:=rf (ug s (x8 s).length)++(rf (x8 s)++rO s.C.toNat s.qy i)) (x':=rf (ug s' (x8 s').length)++(rf (x8 s')++rO s'.C.toNat s'.qy i)) (y:=y++[68,79,78,69]) (y':=y'++[68,79,78,69]) (by rw[e1,e2,ih]) ?_ ?_
   .rw[qF ae,qF (by rw[<-hC,<-hL];omega),hC,hL]
   .simpa only[dU]using hB
 rw[e1,e2,e3 _ (ak _),hC,hL]
theorem afZ{s:Sh}(hF:s.O1)(hW:s.Few)(hG:s.RU){z:List UInt8}(hB:Bst (vl (RS s)^^^vl z))(hne:z≠RS s):∃e,qP z=.error e:=by
 cases h:qP z with
 |error e=>exact⟨e,rfl⟩
 |ok d=>
  exfalso;obtain⟨f1,_,f3,f4,_,rfl⟩:=Xl h
  have cl:∀t:Sh,t.O1->t.Few->t.RU->t.qy.length<=65536:=by intro t tf tw tl;have h1:=Du (k:=t.K.toNat) (t:=EG t.zs) (by have:=tf.k1;omega);have h2:=tw.bytes;have h3:t.qy.length=_:=tl;omega
  exact hne (aof hF f1 hW f3 (cl _ hF hW hG) (cl _ f1 f3 f4) hB).symm
theorem aiq{b k:Nat}(y:Nat)(hb:b<2^k):b+2^k*y=b^^^(2^k*y):=by
 apply nN;intro i;rw[iQ,Nat.testBit_two_pow_mul_add _ hb,Nat.testBit_xor,Nat.testBit_two_pow_mul];by_cases hi:i<k
 .simp[hi,Nat.not_le.2 hi]
 .have h8:k<=i:=ae;rw[ah hi,Nat.testBit_lt_two_pow (x:=b) (i:=i) (aK hb (jh ae h8))];simp[h8]
theorem YW(k a b:Nat):2^k*(a^^^b)=2^k*a^^^2^k*b:=by have:=Nat.shiftLeft_xor_distrib (a:=a) (b:=b) (i:=k);simpa[Nat.shiftLeft_eq,eX]using this
def flip(l:List UInt8)(q r:Nat):List UInt8:=l.set q (UInt8.ofNat (tJ l q^^^2^r))
theorem air(l:List UInt8)(q r:Nat):(flip l q r).length=l.length:=by simp[flip]
theorem aaJ{b r:Nat}(hb:b<256)(hr:r<8):b^^^2^r<256:=iC (n:=8) hb (Nat.pow_lt_pow_right ae hr)
theorem alR(l:List UInt8)(q j:Nat)(x:UInt8)(hq:q<l.length):tJ (l.set q x) j=if j=q then x.toNat else tJ l j:=by
 simp only[tJ,aO,mr];by_cases e:q=j
 .subst e;simp[hq]
 .rw[ah e,ah (λh=>e h.symm)]
theorem alS(l:List UInt8)(q r j:Nat)(hq:q<l.length)(hr:r<8):tJ (flip l q r) j=if j=q then tJ l q^^^2^r else tJ l j:=by rw[flip,alR _ _ _ _ hq,dW,aZ (aaJ (Fv _ _) hr)]
theorem aeR:∀(l:List UInt8)(q r:Nat),q<l.length->r<8->vl (flip l q r)=vl l^^^2^(8*q+r)
 |[],_,_,h,_=>by simp at h
 |b::l,0,r,_,hr=>by have e:flip (b::l) 0 r=UInt8.ofNat (b.toNat^^^2^r)::l:=rfl;have hx:=aaJ b.toNat_lt hr;rw[e,vl,dW,aZ hx,Je _ hx,vl,Je _ b.toNat_lt,Nat.mul_zero,aT,bJ,iM (2^r),bJ]
 |b::l,q+1,r,h,hr=>by have e:flip (b::l) (q+1) r=b::flip l q r:=rfl;rw[e,vl,aeR l q r kZ hr,vl,show 256*(vl l^^^2^(8*q+r))=2^8*(vl l^^^2^(8*q+r))from rfl,YW,show 8*(q+1)+r=8+(8*q+r)by omega,Nat.pow_add 2 8,Je (vl l) b.toNat_lt,bJ,show 256*vl l=2^8*vl l from rfl,<-YW];exact Je _ b.toNat_lt
theorem aaK(p i:Nat):p%2^(i+1)=if p/2^i%2=1 then p%2^i^^^2^i else p%2^i:=by
 have h:=Nat.mod_mul (x:=p) (a:=2^i) (b:=2);rw[<-iO]at h;have h2:p/2^i%2=0\/p/2^i%2=1:=ae;have hl:=fJ p (Nat.two_pow_pos i);rcases h2 with e|e
 .rw[ah ae,h,e,Nat.mul_zero,eY]
 .rw[aj e,h,e,aiq 1 hl,iD]
theorem alT{p t:Nat}(hp:p%2=1)(ht:1<=t):p%2^t≠0:=by
 intro h;have h3:2∣2^t:=by simpa using Nat.pow_dvd_pow 2 ht
 have h2:p%2^t%2=p%2:=Nat.mod_mod_of_dvd p h3;omega
theorem alU(y:Int):∃p:Nat,bits .or .u64 (IntKind.u64.wrap y) 1=(p:Int)/\p<18446744073709551616/\p%2=1:=by
 obtain⟨a,ha,qE⟩:∃a:Nat,IntKind.u64.wrap y=(a:Int)/\a<18446744073709551616:=by have h:=wrap_within .u64 y;have e1:IntKind.u64.min=0:=au;have e2:IntKind.u64.max=18446744073709551615:=au;exact⟨(IntKind.u64.wrap y).toNat,ae,ae⟩
 rw[ha];have:=bits_or_u64_nat a 1 qE ae;refine⟨a|||1,by simpa using this,Nat.or_lt_two_pow (n:=64) qE ae,?_⟩;rw[show(a|||1)%2=(a|||1)%2^1 from rfl,Nat.or_mod_two_pow];have h2:a%2=0\/a%2=1:=ae;rcases h2 with e|e<;>simp[e]
theorem ais(l:List UInt8)(v:Value)(w:World)(h:qR w v (r_ l))(h0:0<l.length)(hl:l.length<=10000000000)(x y:Int)(hx:Ie x):
  Calls Tryz.prog 13 #[v,.int .i64 x,.int .i64 y] w λr w'=>∃l',r=.returned (.slice (some ⟨w.heap.size,0,none⟩) l.length l.length)/\w'.rowIs w.heap.size 5 l.length (λj=>.int .u8 ((tJ l' j:Nat):Int))/\Below w.heap.size w w'/\w.heap.size<w'.heap.size/\l'.length=l.length/\Bst (vl l^^^vl l')/\l'≠l:=by
 have hlv:∃ba cap,v=.slice ba l.length cap:=by obtain⟨ba,cap,rfl,_⟩:=h;exact⟨ba,cap,dL⟩
 obtain⟨L,hL⟩:∃L,L=l.length:=⟨_,rfl⟩;rw[<-hL]at h0 hl hlv⊢
 have hm1:∀w:World,(Instr.makeSlice 34 (.int .i64 ((L:Nat):Int)) (.int .i64 ((L:Nat):Int))).run Tryz.prog w=.ok (.slice (some ⟨w.heap.size,0,none⟩) L L) (w.alloc (.cells (madeCells #[.int .u8 0] L) 5)):=
  λw=>run_make_row' (P:=Tryz.prog) 34 5 (.int .u8 0) 1 Tryz.underlying34 Tryz.aeE rfl .i64 .i64 L ae ae w
 have z1:=World.rowIs_made w (.int .u8 0) L 5;have b1:Below w.heap.size w (w.alloc (.cells (madeCells #[.int .u8 0] L) 5)):=(aA _ _).alloc (ak _) _;have s1:(w.alloc (.cells (madeCells #[.int .u8 0] L) 5)).heap.size=w.heap.size+1:=ai;obtain⟨w2,hcp,r2,o2,s2,h2a,h2b,h2c⟩:=aaq _ w.heap.size L v l (h.below b1) ae z1;have b2:Below w.heap.size w w2:=⟨h2a,h2b,h2c,ae,λb hb=>avL⟩;have anC:=hm1 w;obtain⟨p,EJ,CJ,hp3⟩:=alU y;have kp:=EC x (8*L) (8*(L:Int)) ae hx.1 hx.2 ae ae;have hat:zn x (8*L)<8*L:=zq x ae;generalize zn x (8*L)=at_ at kp hat;obtain⟨ba,cap,rfl⟩:=hlv;rw[<-hL]at hcp;generalize madeCells #[.int .u8 0] L=Z1 at*;have zD:w.heap.size<w2.heap.size:=ae;have hL1:L<=l.length:=ae;have hL2:l.length<=L:=ae;clear hm1 s1 o2 s2 h2a h2b h2c z1 b1 h hL;go_enter Tryz.func13,Tryz.ntmps13
 go_wp2_with(first|(go_at_call 10;(with_reducible refine(kp _).mono ?_);rintro e w' ⟨rfl,tH⟩;obtain rfl:=tH.symm))
 clear hcp anC kp
 go_loopw [10] (λvi wr=>∃(i:Nat)(l':List UInt8),i<=64/\at_+i<=8*L/\vi=.int .i64 (i:Int)/\l'.length=L/\vl l'=vl l^^^2^at_*(p%2^i)/\wr.rowIs w.heap.size 5 L (λj=>.int .u8 ((tJ l' j:Nat):Int))/\Below w.heap.size w wr/\w.heap.size<wr.heap.size) (λi _=>64-(intOf i).toNat)
 case atStart=>exact⟨0,l,ae,ae,rfl,ae,by simp[Nat.mod_one],r2,b2,zD⟩
 case round=>
  clear r2 b2 zD;obtain⟨i,l',hi,hai,rfl,Fg,hv,hR,hb,hs⟩:=hrel;by_cases qE:i<64/\at_+i<8*L
  .have akJ:(i:Int)<64:=ae;have ZY:(at_:Int)+(i:Int)<8*(L:Int):=ae;obtain⟨q,r,hqr,hr8⟩:∃q r,at_+i=8*q+r/\r<8:=⟨(at_+i)/8,(at_+i)%8,ae,ae⟩;have hqL:q<L:=ae;have hql:(q:Int)<(L:Int):=ae;have c1:=hR.cell hqL;have fz:=hR.frozen q;have hbx:=Fv l' q;have h2:p/2^i%2=0\/p/2^i%2=1:=ae
   have acu:bits .and .u64 ((p:Int)/2^i) 1=((p/2^i%2:Nat):Int):=by have:=bits_and_u64_nat (p/2^i) 1 (iP (Nat.div_le_self _ _) CJ) ae;rw[Nat.and_one_is_mod]at this;exact aww
   rcases h2 with e|e
   .rw[e]at acu;go_wp2;refine⟨⟨i+1,l',ae,ae,ai,Fg,?_,hR,hb,hs⟩,fP⟩;rw[hv,aaK,ah ae]
   .rw[e]at acu;have d0:IntKind.i64.wrap ((at_:Int)+(i:Int))=(at_:Int)+(i:Int):=gV;have d1:((at_:Int)+(i:Int)).tdiv 8=(q:Int):=by rw[aui ae];omega
    have d2:((at_:Int)+(i:Int)).tmod 8=(r:Int):=by rw[Int.tmod_eq_emod_of_nonneg ae];omega
    have d3:IntKind.i64.wrap (q:Int)=(q:Int):=gV;have h2r:2^r<256:=Nat.pow_lt_pow_right (a:=2) (n:=8) ae hr8
    have d4:IntKind.u8.wrap ((2:Int)^r)=((2^r:Nat):Int):=by have:((2:Int)^r)=((2^r:Nat):Int):=ai;rw[this];generalize 2^r=t at h2r;exact IntWalk.u8_in _ ae
    have L6:(r:Int)<=8:=ae;generalize ZT:tJ l' q=bb at c1 hbx;have d5:=u8_xor_nat bb (2^r) hbx h2r
    go_wp2_with fail
    refine Ej 18 mixed ag ?_;simp only[nP,kG,nZ,kS]
    repeat still_step
    refine wpStill_nil ?_;have Fh:=hR.set q (.int .u8 ((bb^^^2^r:Nat):Int))
    have XH:=Fh.congr (g:=λj=>.int .u8 ((tJ (flip l' q r) j:Nat):Int)) (λj _=>by
     rw[alS l' q r j ae hr8,ZT];by_cases ej:j=q
     .rw[aj ej,aj ej]
     .rw[ah ej,ah ej])
    have vK:=hb.setCell (p:=⟨w.heap.size,q,none⟩) (ak _) (.int .u8 ((bb^^^2^r:Nat):Int))
    have hv3:vl (flip l' q r)=vl l^^^2^at_*(p%2^(i+1)):=by rw[aeR l' q r ae hr8,hv,aaK,aj e,YW,<-Nat.pow_add,hqr,bJ]
    have hl3:(flip l' q r).length=L:=by rw[air,Fg]
    clear hR Fh hb hv Fg ZT;have xu:w.heap.size<(wr.setCell ⟨w.heap.size,q,none⟩ (.int .u8 ((bb^^^2^r:Nat):Int))).heap.size:=by simp;exact hs
    have d6:bits .xor .u8 (bb:Int) ((2:Int)^r)=((bb^^^2^r:Nat):Int):=by rw[<-d5];simp
    go_wp2;exact⟨⟨i+1,flip l' q r,ae,ae,ai,hl3,hv3,XH,⟨vK.os,vK.tape,vK.output,vK.size,vK.block⟩,xu⟩,fP⟩
  .have Ag:¬((i:Int)<64)\/¬((at_:Int)+(i:Int)<8*(L:Int)):=ae;have ht:1<=i:=ae
   have fin:∃l':List UInt8,wr.rowIs w.heap.size 5 L (λj=>.int .u8 ((tJ l' j:Nat):Int))/\l'.length=L/\Bst (vl l^^^vl l')/\l'≠l:=by
    refine⟨l',hR,Fg,?_,?_⟩
    .rw[hv,<-bJ,iy,Nat.zero_xor];exact⟨at_,p%2^i,iP (Nat.mod_le _ _) CJ,rfl⟩
    .intro e;rw[e]at hv
     have h1:2^at_*(p%2^i)=0:=by have:=aP (vl l^^^ ·) hv;simp only[iy,<-bJ,Nat.zero_xor]at this;exact this.symm
     rcases Nat.mul_eq_zero.1 h1 with h2|h2
     .exact absurd h2 (Nat.ne_of_gt (Nat.two_pow_pos _))
     .exact alT hp3 ht h2
   obtain⟨l2,g1,g2,g3,g4⟩:=fin;rcases Ag with q|q
   .exact awT
   .by_cases q1:(i:Int)<64
    .exact awT
    .exact awT
end Go.Proofs.Y
namespace Go.Proofs.Y
open Go.RowKit Go.Deep Go.Hp
def V9(bad n:Nat):List Nat:=(List.range n).filter λi=>bad/2^i%2==0
theorem Ux(bad n:Nat):V9 bad (n+1)=if bad/2^n%2=0 then V9 bad n++[n]else V9 bad n:=by
 rw[V9,dC,List.filter_append];by_cases h:bad/2^n%2=0
 .rw[aj h];simp[V9,h]
 .rw[ah h];simp[V9,h]
theorem aog(bad n:Nat):(V9 bad n).length<=n:=by have:=List.length_filter_le (λi=>bad/2^i%2==0) (List.range n);rw[List.length_range]at this;exact this
def YX(bad i:Nat)(z z':List UInt8):Prop:=if bad/2^i%2=0 then z'=z else z'.length=z.length/\Bst (vl z^^^vl z')/\z'≠z
section
variable {K N C m:Nat}{f:Nat->qY}{d:qY->List UInt8}
theorem aeS{bad:Nat}{sb:Nat->List UInt8}{s:Nat->xg}:∀n,(∀i,i<n->if bad/2^i%2=0 then qP (sb i)=.ok (s i)else∃e,qP (sb i)=.error e)->MC sb n=(V9 bad n).map s
 |0,_=>rfl
 |n+1,h=>by
  have ih:=aeS n λi hi=>h i ae
  have hn:=h n ae;rw[Ux];by_cases q:bad/2^n%2=0
  .rw[aj q]at hn⊢;rw[ahx hn,ih,iH];rfl
  .rw[ah q]at hn⊢;obtain⟨e,he⟩:=hn;rw[ahw he,ih]
theorem ait{bad:Nat}{sb:Nat->List UInt8}{g:Nat->Nat}{vb:Value}{er:Nat}{w:World}(hp:∀i,i<N->qP (RS (zX K N C m f d i))=.ok (IX K N C m f d i))(hgd:∀i,i<N->(zX K N C m f d i).O1/\(zX K N C m f d i).Few/\(zX K N C m f d i).RU)
  (hH:∀i,i<N->YX bad i (RS (zX K N C m f d i)) (sb i)) (hd:∀j,j<m->(d (f j)).length=(f j).l) (hK:1<=K) (hP:Prm (MC sb N).length g) (hR:YD (MC sb N).length (λi=>Ai (MC sb N) (g i)) vb er w):
  (∀i,i<N->(erS (sb i)=0↔bad/2^i%2=0))/\(K<=(V9 bad N).length->er=0/\∃gb vd,vb=.slice (some ⟨gb,0,none⟩) m m/\CB (qB m f) ((qG m f).map Int.toNat) (rC (λj=>d (f j)) m) gb m vd w)/\((V9 bad N).length<K->er=12/\vb=.slice none 0 0):=by
 have DW:∀i,i<N->if bad/2^i%2=0 then qP (sb i)=.ok (IX K N C m f d i)else∃e,qP (sb i)=.error e:=λi hi=>by
  have h:=hH i hi;unfold YX at h;by_cases q:bad/2^i%2=0
  .rw[aj q]at h⊢;rw[h];exact hp i hi
  .rw[ah q]at h⊢;obtain⟨g1,g2,g3⟩:=hgd i hi;exact afZ g1 g2 g3 h.2.1 h.2.2
 have htk:=aeS N DW;have hlen:(MC sb N).length=(V9 bad N).length:=by rw[htk];simp
 refine⟨λi hi=>?_,?_⟩
 .have h:=DW i hi;by_cases q:bad/2^i%2=0
  .rw[aj q]at h;simp only[erS,h,q]
  .rw[ah q]at h;obtain⟨e,he⟩:=h;have:=aah he;simp only[erS,he];exact⟨λx=>absurd x this,λx=>absurd x q⟩
 rw[hlen]at hP hR;rw[htk]at hR;have hnd:(V9 bad N).Pairwise (· ≠ ·):=List.Pairwise.filter _ jM;generalize V9 bad N=xs at*;rcases dK xs.length with h0|h0
 .rw[h0]at hR⊢;exact⟨λh=>ae,λ_=>aim hR⟩
 .have hR':=hR.congr h0 (sh':=λi=>IX K N C m f d (xs.getD (g i) 0)) λi hi=>by
   have:=hP.lt i hi;simp[Ai,a_ this]
  refine ala hd (x:=λi=>xs.getD (g i) 0) (λi j hi hj hne e=>?_) hK hR';have l1:=hP.lt i hi;have l2:=hP.lt j hj;have e':xs.getD (g i) 0=xs.getD (g j) 0:=e;rw[aO,aO,a_ l1,a_ l2,aB,aB]at e';have hpw:=List.pairwise_iff_getElem.1 hnd;refine hP.inj i j hi hj hne ?_;rcases atZ (g i) (g j)with q|q|q
  .exact absurd e' (hpw _ _ l1 l2 q)
  .exact q
  .exact absurd e'.symm (hpw _ _ l2 l1 q)
