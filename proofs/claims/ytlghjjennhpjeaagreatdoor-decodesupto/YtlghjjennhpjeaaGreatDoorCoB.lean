import Derived.Conc.CompanyMem
import Derived.Test.YtlghjjennhpjeaaGreatDoorGhD
import Derived.Test.YtlghjjennhpjeaaGreatDoorProg
import Derived.WalkSpells
import Derived.WalkLawsBesides
import Derived.Conc.AppendWalk
set_option maxHeartbeats 400000
set_option maxRecDepth 100000
namespace Go.Proofs.Y
open Go.Proofs.Tryz
def tx(a:Nat):Nat:=if 128<=a then(2*a%256)^^^29 else 2*a
def Fb:Nat->Nat->Nat->Nat->Nat
 |0,p,_,_=>p
 |n+1,p,a,b=>Fb n (if b%2=1 then p^^^a else p) (tx a) (b/2)
def mul(a b:Nat):Nat:=Fb 8 0 a b
theorem ahO:∀a:Fin 256,tx a.val=(2*a.val)^^^(285*(a.val/128)):=f_
theorem ahP:∀a:Fin 256,tx a.val<256:=f_
theorem MB{a:Nat}(h:a<256):tx a<256:=ahP ⟨a,h⟩
theorem CV{a b:Nat}(ha:a<256)(hb:b<256):a^^^b<256:=gY (n:=8) ha hb
theorem anU{a b:Nat}(ha:a<256)(hb:b<256):tx (a^^^b)=tx a^^^tx b:=by
 have h1:=ahO ⟨a^^^b,CV ha hb⟩;have h2:=ahO ⟨a,ha⟩;have h3:=ahO ⟨b,hb⟩;simp only at h1 h2 h3;rw[h1,h2,h3]
 have e1:2*(a^^^b)=(2*a)^^^(2*b):=by have:=avU (a:=a) (b:=b) (i:=1);simpa[auJ,fQ]using this
 have e2:(a^^^b)/128=(a/128)^^^(b/128):=by have:=oK (a:=a) (b:=b) (i:=7);simpa[oL]using this
 have e3:∀p q:Nat,p<2->q<2->285*(p^^^q)=(285*p)^^^(285*q):=by intro p q hp hq;have:p=0\/p=1:=ag;have:q=0\/q=1:=ag;rcases‹p=0\/p=1› with rfl|rfl<;>rcases‹q=0\/q=1› with rfl|rfl<;>rfl
 rw[e1,e2,e3 _ _ ag ag];rw[dJ,dJ]
 congr 1
 rw[<-dJ,jA (2*b),dJ]
theorem ahQ(a b c d:Nat):(a^^^b)^^^(c^^^d)=(a^^^c)^^^(b^^^d):=by rw[dJ,dJ];congr 1;rw[<-dJ,jA b,dJ]
theorem aeG:∀(n p a b:Nat),p<256->a<256->Fb n p a b<256
 |0,_,_,_,hp,_=>hp
 |n+1,p,a,b,hp,ha=>by
  rw[Fb];refine aeG n _ _ _ ?_ (MB ha);split
  .exact CV hp ha
  .exact hp
theorem mul_lt{a b:Nat}(ha:a<256):mul a b<256:=aeG 8 0 a b ag ha
theorem FO:∀(n p q a c b:Nat),a<256->c<256->Fb n (p^^^q) (a^^^c) b=Fb n p a b^^^Fb n q c b
 |0,_,_,_,_,_,_,_=>rfl
 |n+1,p,q,a,c,b,ha,hc=>by
  rw[Fb,Fb,Fb,anU ha hc];split
  .rw[ahQ,FO n _ _ _ _ _ (MB ha) (MB hc)]
  .rw[FO n _ _ _ _ _ (MB ha) (MB hc)]
theorem xq{a c:Nat}(b:Nat)(ha:a<256)(hc:c<256):mul (a^^^c) b=mul a b^^^mul c b:=by have:=FO 8 0 0 a c b ha hc;simpa[mul]using this
theorem Ub(b d:Nat):(b^^^d)%2=if b%2=d%2 then 0 else 1:=by exact ayu
theorem ahR(b d:Nat):(b^^^d)/2=(b/2)^^^(d/2):=by exact ayf
theorem Jl:∀(n p q a b d:Nat),a<256->Fb n (p^^^q) a (b^^^d)=Fb n p a b^^^Fb n q a d
 |0,_,_,_,_,_,_=>rfl
 |n+1,p,q,a,b,d,ha=>by
  rw[Fb,Fb,Fb,ahR,Ub];rw[<-Jl n _ _ _ _ _ (MB ha)]
  congr 1
  have h1:b%2=0\/b%2=1:=ag;have h2:d%2=0\/d%2=1:=ag;rcases h1 with h1|h1<;>rcases h2 with h2|h2<;>simp[h1,h2]
  .rw[dJ]
  .rw[dJ,dJ,jA a]
  .rw[ahQ,kJ,lU]
theorem wL{a:Nat}(b d:Nat)(ha:a<256):mul a (b^^^d)=mul a b^^^mul a d:=by have:=Jl 8 0 0 a b d ha;simpa[mul]using this
def Lin(f:Nat->Nat):Prop:=∀a b,a<256->b<256->f (a^^^b)=f a^^^f b
theorem apY:∀a:Fin 256,a.val=(((((((a.val/128%2*128)^^^(a.val/64%2*64))^^^(a.val/32%2*32))^^^(a.val/16%2*16))^^^(a.val/8%2*8))^^^(a.val/4%2*4))^^^(a.val/2%2*2))^^^(a.val%2*1):=by decide+kernel
theorem Lin.zero{f:Nat->Nat}(h:Lin f):f 0=0:=by have:=h 0 0 ag ag;rw[kJ,kJ]at this;exact this
theorem Fe{f g:Nat->Nat}(hf:Lin f)(hg:Lin g)(x m:Nat)(hx:x<2)(h:f m=g m):f (x*m)=g (x*m):=by
 have:x=0\/x=1:=ag;rcases this with rfl|rfl
 .rw[fO,hf.zero,hg.zero]
 .rw[auK,h]
theorem Lin.ext{f g:Nat->Nat}(hf:Lin f)(hg:Lin g)(h:∀i:Fin 8,f (2^i.val)=g (2^i.val))(a:Nat)(ha:a<256):f a=g a:=by
 have e:=apY ⟨a,ha⟩;simp only at e;have x7:a/128%2*128<256:=ag;have x6:a/64%2*64<256:=ag;have x5:a/32%2*32<256:=ag;have x4:a/16%2*16<256:=ag;have x3:a/8%2*8<256:=ag;have x2:a/4%2*4<256:=ag;have x1:a/2%2*2<256:=ag;have x0:a%2*1<256:=ag;have y6:=CV x7 x6;have y5:=CV y6 x5;have y4:=CV y5 x4;have y3:=CV y4 x3;have y2:=CV y3 x2;have y1:=CV y2 x1
 rw[e,hf _ _ y1 x0,hg _ _ y1 x0,hf _ _ y2 x1,hg _ _ y2 x1,hf _ _ y3 x2,hg _ _ y3 x2,hf _ _ y4 x3,hg _ _ y4 x3,
  hf _ _ y5 x4,hg _ _ y5 x4,hf _ _ y6 x5,hg _ _ y6 x5,hf _ _ x7 x6,hg _ _ x7 x6,
  Fe hf hg _ 128 ag (h 7),Fe hf hg _ 64 ag (h 6),Fe hf hg _ 32 ag (h 5),Fe hf hg _ 16 ag (h 4),
  Fe hf hg _ 8 ag (h 3),Fe hf hg _ 4 ag (h 2),Fe hf hg _ 2 ag (h 1),Fe hf hg _ 1 ag (h 0)]
theorem yR(b:Nat):Lin (λa=>mul a b):=λ_ _ ha hc=>xq b ha hc
theorem FP{a:Nat}(ha:a<256):Lin (λb=>mul a b):=λ_ _ _ _=>wL _ _ ha
theorem mul_one{a:Nat}(ha:a<256):mul a 1=a:=
 Lin.ext (f:=λa=>mul a 1) (g:=λa=>a) (yR 1) (λ_ _ _ _=>rfl) f_ a ha
theorem mul_zero(a:Nat):mul a 0=0:=by simp[mul,Fb]
theorem zero_mul{a:Nat}:mul 0 a=0:=(yR a).zero
theorem G7(i:Fin 8):2^i.val<256:=by revert i;decide
theorem anV:∀i j:Fin 8,mul (2^i.val) (2^j.val)=mul (2^j.val) (2^i.val):=f_
theorem mul_comm{a b:Nat}(ha:a<256)(hb:b<256):mul a b=mul b a:=by refine Lin.ext (f:=λa=>mul a b) (g:=λa=>mul b a) (yR b) (FP hb) (λi=>?_) a ha;exact Lin.ext (f:=λb=>mul (2^i.val) b) (g:=λb=>mul b (2^i.val)) (FP (G7 i)) (yR _) (λj=>anV i j) b hb
theorem ahS:∀i j k:Fin 8,mul (2^i.val) (mul (2^j.val) (2^k.val))=mul (mul (2^i.val) (2^j.val)) (2^k.val):=f_
theorem mul_assoc{a b c:Nat}(ha:a<256)(hb:b<256)(hc:c<256):mul a (mul b c)=mul (mul a b) c:=by
 refine Lin.ext (f:=λa=>mul a (mul b c)) (g:=λa=>mul (mul a b) c) (yR _) ?_ (λi=>?_) a ha
 .intro x y hx hy;show mul (mul (x^^^y) b) c=_;rw[xq b hx hy,xq c (mul_lt hx) (mul_lt hy)]
 refine Lin.ext (f:=λb=>mul (2^i.val) (mul b c)) (g:=λb=>mul (mul (2^i.val) b) c) ?_ ?_ (λj=>?_) b hb
 .intro x y hx hy;show mul _ (mul (x^^^y) c)=_;rw[xq c hx hy,wL _ _ (G7 i)]
 .intro x y hx hy;show mul (mul _ (x^^^y)) c=_;rw[wL _ _ (G7 i),xq c (mul_lt (G7 i)) (mul_lt (G7 i))]
 refine Lin.ext (f:=λc=>mul (2^i.val) (mul (2^j.val) c)) (g:=λc=>mul (mul (2^i.val) (2^j.val)) c) ?_ ?_ (λk=>ahS i j k) c hc
 .intro x y hx hy;show mul _ (mul _ (x^^^y))=_;rw[wL _ _ (G7 j),wL _ _ (G7 i)]
 .intro x y hx hy;show mul (mul _ _) (x^^^y)=_;rw[wL _ _ (mul_lt (G7 i))]
def acK:Nat->Nat->Nat->Nat
 |0,_,v=>v
 |n+1,p,v=>acK n (mul p p) (mul v (mul p p))
def inv(a:Nat):Nat:=acK 7 a 1
theorem afL:∀a:Fin 256,inv a.val<256:=f_
theorem YO{a:Nat}(ha:a<256):inv a<256:=afL ⟨a,ha⟩
theorem acL:∀a:Fin 256,a.val=0\/mul a.val (inv a.val)=1:=f_
theorem Tu{a:Nat}(ha:a<256)(h0:a≠0):mul a (inv a)=1:=(acL ⟨a,ha⟩).resolve_left h0
theorem inv_zero:inv 0=0:=f_
theorem acM{a b:Nat}(ha:a<256)(hb:b<256)(h:mul a b=1):b=inv a:=by
 have h0:a≠0:=by rintro rfl;rw[zero_mul]at h;exact absurd h aB
 have h1:=Tu ha h0;have hi:=YO ha;have e:mul (inv a) (mul a b)=mul (mul (inv a) a) b:=mul_assoc hi ha hb;rw[h,mul_one hi,mul_comm hi ha,h1,mul_comm ag hb,mul_one hb]at e;exact e.symm
theorem aal{a:Nat}(ha:a<256)(h0:a≠0):inv a≠0:=by intro h;have:=Tu ha h0;rw[h,mul_zero]at this;exact absurd this aB
def zu(a b:Nat):Nat->Nat
 |0=>0
 |k+1=>if b/2^k%2=1 then zu a b k^^^(a*2^k)else zu a b k
def D9:Nat->Nat->Nat
 |0,p=>p
 |n+1,p=>D9 n (if p/2^(8+n)%2=1 then p^^^(285*2^n)else p)
def vK(a b:Nat):Nat:=D9 7 (zu a b 8)%256
theorem aeH(x y k:Nat):(x^^^y)/2^k=(x/2^k)^^^(y/2^k):=by have:=oK (a:=x) (b:=y) (i:=k);simpa[oL]using this
theorem alf(x y k:Nat):(x^^^y)*2^k=(x*2^k)^^^(y*2^k):=by have:=avU (a:=x) (b:=y) (i:=k);simpa[auJ]using this
theorem alg(a b:Nat)(ha:a<256):∀k,zu a b k<2^(8+k)
 |0=>by simp[zu]
 |k+1=>by
  have ih:=alg a b ha k;have e:2^(8+(k+1))=2*2^(8+k):=by rw[<-dO,jH];omega
  rw[zu];split
  .refine gY ag ?_;have:a*2^k<256*2^k:=Nat.mul_lt_mul_of_pos_right ha (Nat.two_pow_pos k);have:256*2^k=2^(8+k):=by rw[Nat.pow_add]
   omega
  .omega
theorem Jm(a b d:Nat):∀k,zu a (b^^^d) k=zu a b k^^^zu a d k
 |0=>by simp[zu]
 |k+1=>by
  rw[zu,zu,zu,Jm a b d k,aeH,Ub];have h1:b/2^k%2=0\/b/2^k%2=1:=ag;have h2:d/2^k%2=0\/d/2^k%2=1:=ag;rcases h1 with h1|h1<;>rcases h2 with h2|h2<;>simp[h1,h2]
  .rw[dJ]
  .rw[dJ,dJ];congr 1;rw[jA]
  .rw[ahQ,kJ,lU]
theorem MC(a c b:Nat):∀k,zu (a^^^c) b k=zu a b k^^^zu c b k
 |0=>by simp[zu]
 |k+1=>by
  rw[zu,zu,zu,MC a c b k];split
  .rw[alf,ahQ]
  .rfl
theorem Uc:∀(n p q:Nat),D9 n (p^^^q)=D9 n p^^^D9 n q
 |0,_,_=>rfl
 |n+1,p,q=>by
  rw[D9,D9,D9,<-Uc n,aeH,Ub]
  congr 1
  have h1:p/2^(8+n)%2=0\/p/2^(8+n)%2=1:=ag;have h2:q/2^(8+n)%2=0\/q/2^(8+n)%2=1:=ag;rcases h1 with h1|h1<;>rcases h2 with h2|h2<;>simp[h1,h2]
  .rw[dJ]
  .rw[dJ,dJ];congr 1;rw[jA]
  .rw[ahQ,kJ,lU]
theorem Ud(x y:Nat):(x^^^y)%256=(x%256)^^^(y%256):=auH (n:=8)
theorem PZ(a b d:Nat):vK a (b^^^d)=vK a b^^^vK a d:=by simp only[vK,Jm,Uc,Ud]
theorem Si(a c b:Nat):vK (a^^^c) b=vK a b^^^vK c b:=by simp only[vK,MC,Uc,Ud]
theorem apZ:∀i j:Fin 8,vK (2^i.val) (2^j.val)=mul (2^i.val) (2^j.val):=f_
theorem KG{a b:Nat}(ha:a<256)(hb:b<256):vK a b=mul a b:=by refine Lin.ext (f:=λa=>vK a b) (g:=λa=>mul a b) (λ_ _ _ _=>Si _ _ _) (yR b) (λi=>?_) a ha;exact Lin.ext (f:=λb=>vK (2^i.val) b) (g:=λb=>mul (2^i.val) b) (λ_ _ _ _=>PZ _ _ _) (FP (G7 i)) (λj=>apZ i j) b hb
end Go.Proofs.Y
namespace Go.Gh
open Go.Conc
section
variable {P:aP}{main:Bool}{R:ah->ah->Prop}{D:ah->ah->aN->Prop}{fn:aU}{ops:Array Oper}{Q:Exit->Act->ah->Prop}{S:ah->Prop}{nf lst:Nat}
def OpX(P:aP)(main:Bool)(R:ah->ah->Prop)(D:ah->ah->aN->Prop)(fn:aU)(ops:Array Oper)(nf i:Nat)(K:Act->ah->Prop)(a:Act)(w:ah):Prop:=
 ∃o,ops[i]?=some o/\
  ((Region.wanted o (yielded ops a.tmps)=true/\∀w₁,R w w₁->uponK o a (λa' w'=>D w₁ w' (listed P fn a o w₁)/\K a' w') ((execOp a.eval o).run P w₁))\/
   (Region.wanted o (yielded ops a.tmps)=true/\∃f args ats Post,o.op=.call {callee:=.value (.func f),args,argTypes:=ats}/\CallsC P main R D f (args.map a.eval) nf w Post/\∀v w',Post v w'->K (a.put o.dst v) w')\/
   (Region.wanted o (yielded ops a.tmps)=false/\K (a.put o.dst undef) w))
theorem OpX.mono{i:Nat}{K K':Act->ah->Prop}{a:Act}{w:ah}(hK:∀a w,K a w->K' a w)(h:OpX P main R D fn ops nf i K a w):OpX P main R D fn ops nf i K' a w:=by
 obtain⟨o,ho,h⟩:=h;refine⟨o,ho,?_⟩;rcases h with⟨hw,h⟩|⟨hw,f,args,ats,Post,h1,h2,h3⟩|⟨hw,h⟩
 .exact .inl ⟨hw,λw₁ r=>uponK_mono (λ_ _ x=>⟨x.1,hK _ _ x.2⟩) (h w₁ r)⟩
 .exact .inr (.inl ⟨hw,f,args,ats,Post,h1,h2,λv w' p=>hK _ _ (h3 v w' p)⟩)
 .exact .inr (.inr ⟨hw,hK _ _ h⟩)
def IE(P:aP)(main:Bool)(R:ah->ah->Prop)(D:ah->ah->aN->Prop)(fn:aU)(ops:Array Oper)(nf:Nat)(Q:Exit->Act->ah->Prop)(S:ah->Prop)(lst:Nat):Nat->Array Bool->Act->ah->Prop
 |0,l,a,w=>Region.ready .any ops l=[]/\Q .normal a w
 |k+1,l,a,w=>(Region.ready .any ops l=[]->Q .normal a w)/\
  ∀i∈Region.ready .any ops l,OpX P main R D fn ops nf i (λa' w'=>(i≠lst->S w')/\IE P main R D fn ops nf Q S lst k (l.setIfInBounds i true) a' w') a w
theorem aam(T:Terms R D){i:Nat}{rest:aC}{m:Nat}{a:Act}{w:ah}(h:OpX P main R D fn ops nf i (λa' w'=>OpsC P main R D fn ops rest m Q a' w') a w):OpsC P main R D fn ops (i::rest) (m+nf+3) Q a w:=by
 obtain⟨o,ho,h⟩:=h;rcases h with⟨hw,h⟩|⟨hw,f,args,ats,Post,h1,h2,h3⟩|⟨hw,h⟩
 .exact opsC_more (opsC_cons ho hw h) ag
 .exact opsC_call T ho hw h1 h2 h3
 .exact opsC_more (opsC_unwanted T ho hw h) ag
theorem Ue(T:Terms R D):∀(k t:Nat)(l:Array Bool)(a:Act)(w:ah),IE P main R D fn ops nf Q S lst k l a w->OpsC P main R D fn ops (Region.linearise.go .any ops k t l []) (k*(nf+3)+1) Q a w
 |0,t,l,a,w,h=>by simpa[Region.linearise.go]using b_ T h.2
 |k+1,t,l,a,w,h=>by
  obtain⟨h0,h1⟩:=h;have e:(k+1)*(nf+3)+1=(k*(nf+3)+1)+nf+3:=by rw[fP];omega
  simp only[Region.linearise.go]
  change OpsC P main R D fn ops (match(Region.ready .any ops l)[t%(Region.ready .any ops l).length]? with
   |some i=>Region.linearise.go .any ops k (t/(Region.ready .any ops l).length) (l.setIfInBounds i true) [i]
   |none=>[].reverse) ((k+1)*(nf+3)+1) Q a w
  cases hi:(Region.ready .any ops l)[t%(Region.ready .any ops l).length]? with
  |none=>
   have ahv:Region.ready .any ops l=[]:=by
    cases hr:Region.ready .any ops l with
    |nil=>rfl
    |cons x xs=>
     rw[hr,List.getElem?_eq_none_iff]at hi;have:=jb t (show 0<(x::xs).length by simp);omega
   exact opsC_more (by simpa using b_ T (h0 ahv)) ag
  |some i=>
   simp only[];rw[linearise_go_acc,List.reverse_singleton,List.singleton_append,e];exact aam T (OpX.mono (λa' w' x=>Ue T k _ _ a' w' x.2) (h1 i (jO hi)))
theorem OpX.swap{j:Nat}{oi oj:Oper}{v:ai}(hj:ops[j]?=some oj)(hap:oi.apart ops oj=true)(hsi:∀cs b,oi.op≠.select cs b)(hsj:∀cs b,oj.op≠.select cs b){K:Act->ah->Prop}{a:Act}{w:ah}
  (hy:YieldsIfC P D fn ops S oi v a) (h:OpX P main R D fn ops nf j K (a.put oi.dst v) w):OpX P main R D fn ops nf j (λa' w'=>YieldsIfC P D fn ops S oi v a'/\K (a'.put oi.dst v) w') a w:=by
 obtain⟨h1,h2,h3⟩:=Oper.apart_spec hap;have Ag:∀u,YieldsIfC P D fn ops S oi v (a.put oj.dst u):=λu=>hy.of_same (execOp_put oi hsi a oj.dst u h3) (wanted_put oi a oj.dst u h3)
 obtain⟨o,ho,h⟩:=h;obtain rfl:oj=o:=by rw[hj]at ho;exact gu ho
 refine⟨oj,hj,?_⟩;rw[wanted_put oj a oi.dst v h1]at h;have hex:execOp (a.put oi.dst v).eval oj=execOp a.eval oj:=execOp_put oj hsj a oi.dst v h1;rcases h with⟨hw,h⟩|⟨hw,f,args,ats,Post,e1,e2,e3⟩|⟨hw,h⟩
 .refine .inl ⟨hw,λw₁ r=>?_⟩;have h:=h w₁ r;unfold listed at h⊢;rw[hex]at h;generalize(execOp a.eval oj).run P w₁=res at h⊢;cases res with
  |halt x w'=>simp only[uponK]at h
  |ok x w'=>
   cases x<;>simp only[uponK]at h⊢
   .rename_i u;exact⟨h.1,Ag u,by rw[<-Act.put_comm a v u h2];exact h.2⟩
   .exact⟨h.1,Ag _,by rw[<-Act.put_comm a v undef h2];exact h.2⟩
 .refine .inr (.inl ⟨hw,f,args,ats,Post,e1,?_,λu w' p=>⟨Ag u,by rw[<-Act.put_comm a v u h2];exact e3 u w' p⟩⟩)
  have ea:args.map (a.put oi.dst v).eval=args.map a.eval:=by
   refine Array.map_congr_left λx hx=>Act.eval_put λd hd hxd=>h1 d hd ?_
   subst hxd;refine auR _ (List.mem_filterMap.2 ⟨.tmp d,?_,rfl⟩);rw[e1];simp[Op.operands,Call.operands,hx]
  rw[ea]at e2;exact e2
 .exact .inr (.inr ⟨hw,Ag _,by rw[<-Act.put_comm a v undef h2];exact h⟩)
theorem YieldsIfC.opX(NW:∀x y,S x->R x y->S y){i:Nat}{o:Oper}{v:ai}{a:Act}(hi:ops[i]?=some o)(hy:YieldsIfC P D fn ops S o v a){K:Act->ah->Prop}(hK:∀a x y,K a x->R x y->K a y){w:ah}(hS:S w)(h:K (a.put o.dst v) w):
  OpX P main R D fn ops nf i K a w:=by
 refine⟨o,hi,?_⟩;rcases hy with⟨hw,hv⟩|⟨hw,rfl⟩
 .refine .inl ⟨hw,λw₁ r=>?_⟩;rw[(hv w₁ (NW _ _ hS r)).1];exact⟨(hv w₁ (NW _ _ hS r)).2,hK _ _ _ h r⟩
 .exact .inr (.inr ⟨hw,h⟩)
theorem CallsC.rely(T:Terms R D){f:aU}{args:aH}{m:Nat}{w w₁:ah}{Post:ai->ah->Prop}(h:CallsC P main R D f args m w Post)(r:R w w₁):CallsC P main R D f args m w₁ Post:=by obtain⟨g,c,h1,h2,h3,h4⟩:=h;exact⟨g,c,h1,h2,h3,iY T h4 r⟩
theorem IE.rely(T:Terms R D)(NW:∀x y,S x->R x y->S y)(RS:∀a x y,Q .normal a x->R x y->Q .normal a y):∀(k:Nat)(l:Array Bool)(a:Act)(w w₁:ah),IE P main R D fn ops nf Q S lst k l a w->R w w₁->IE P main R D fn ops nf Q S lst k l a w₁
 |0,_,_,_,_,h,r=>⟨h.1,RS _ _ _ h.2 r⟩
 |k+1,l,a,w,w₁,h,r=>⟨λe=>RS _ _ _ (h.1 e) r,λi hi=>by
  obtain⟨o,ho,h⟩:=h.2 i hi;refine⟨o,ho,?_⟩;rcases h with⟨hw,h⟩|⟨hw,f,args,ats,Post,e1,e2,e3⟩|⟨hw,h⟩
  .exact .inl ⟨hw,λw₂ r₂=>h w₂ (T.trans _ _ _ r r₂)⟩
  .exact .inr (.inl ⟨hw,f,args,ats,Post,e1,CallsC.rely T e2 r,e3⟩)
  .exact .inr (.inr ⟨hw,λhne=>NW _ _ (h.1 hne) r,IE.rely T NW RS k _ _ _ _ h.2 r⟩)⟩
def DC(ops:Array Oper)(l:Array Bool):Prop:=∀j o,ops[j]?=some o->l.getD j false=true->∀e∈o.after,Region.binds .any e=true->l.getD e.on false=true
theorem DC.set{l:Array Bool}(h:DC ops l){j:Nat}(hj:j∈Region.ready .any ops l):DC ops (l.setIfInBounds j true):=by
 intro m o ho hm e he hb;by_cases hjm:j=m
 .subst hjm;obtain⟨_,o',ho',xg⟩:=mem_ready.1 hj;obtain rfl:o=o':=by rw[ho]at ho';exact gu ho'
  exact getD_set_true (xg e he hb)
 .rw[getD_set_ne false hjm]at hm;exact getD_set_true (h m o ho hm e he hb)
def waitsFor(ops:Array Oper):Nat->Nat->Nat->Bool
 |0,_,_=>false
 |n+1,j,i=>match ops[j]? with
  |none=>false
  |some o=>o.after.any λe=>Region.binds .any e&&(e.on==i||waitsFor ops n e.on i)
theorem Oo{l:Array Bool}(h:DC ops l){i:Nat}:∀(n j:Nat)(o:Oper),ops[j]?=some o->(∀e∈o.after,Region.binds .any e=true->l.getD e.on false=true)->waitsFor ops n j i=true->l.getD i false=true
 |0,_,_,_,_,hw=>by simp[waitsFor]at hw
 |n+1,j,o,ho,hd,hw=>by
  simp only[waitsFor,ho,Array.any_eq_true]at hw;obtain⟨x,hx,hw⟩:=hw;simp only[fU,lZ,beq_iff_eq]at hw;have QH:=hd _ (Array.getElem_mem hx) hw.1;rcases hw.2 with e|e
  .rw[<-e];exact QH
  .cases ho':ops[o.after[x].on]? with
   |none=>
    cases n with
    |zero=>simp[waitsFor]at e
    |succ n=>simp[waitsFor,ho']at e
   |some o'=>exact Oo h n _ o' ho' (h _ o' ho' QH) e
theorem acN(T:Terms R D)(NW:∀x y,S x->R x y->S y)(RS:∀a x y,Q .normal a x->R x y->Q .normal a y){i:Nat}{oi:Oper}{v:ai}(hi:ops[i]?=some oi)(arq:∀(j:Nat)(o:Oper) cs b,ops[j]?=some o->o.op≠.select cs b){nw:Nat}(hwt:waitsFor ops nw lst i=true):
  ∀(k:Nat)(l:Array Bool)(a:Act)(w:ah),DC ops l->(∀j oj,ops[j]?=some oj->j≠i->l.getD j true=false->(∀e∈oj.after,Region.binds .any e=true->e.on≠i)->oi.apart ops oj=true)->
   i∈Region.ready .any ops l->YieldsIfC P D fn ops S oi v a->S w->IE P main R D fn ops nf Q S lst k (l.setIfInBounds i true) (a.put oi.dst v) w->IE P main R D fn ops nf Q S lst (k+1) l a w:=by
 have hK:∀j k l,∀a x y,((j≠lst->S x)/\IE P main R D fn ops nf Q S lst k l a x)->R x y->((j≠lst->S y)/\IE P main R D fn ops nf Q S lst k l a y):=
  λj k l a x y h r=>⟨λhne=>NW _ _ (h.1 hne) r,IE.rely T NW RS k l a x y h.2 r⟩
 intro k
 induction k with
 |zero=>
  intro l a w _ _ hr hy hS H;refine⟨λh=>(by rw[h]at hr;cases hr),λj hj=>?_⟩;by_cases hji:j=i
  .exact axY
  .have:=ready_mono hj hji;rw[H.1]at this;cases this
 |succ k ih=>
  intro l a w hdc anF hr hy hS H;refine⟨λh=>(by rw[h]at hr;cases hr),λj hj=>?_⟩;by_cases hji:j=i
  .exact axY
  .have h1:=H.2 j (ready_mono hj hji);obtain⟨ars,oj,hoj,xg⟩:=mem_ready.1 hj;have hir:i∈Region.ready .any ops (l.setIfInBounds j true):=ready_mono hr (dE hji)
   have asR:∀e∈oj.after,Region.binds .any e=true->e.on≠i:=λe he hb heq=>by
    have h1:=xg e he hb;have h0:=(mem_ready.1 hr).1;rw[heq]at h1;rcases bK i l.size with h'|h'
    .simp[h']at h0 h1;rw[h0]at h1;cases h1
    .simp[av8 h']at h1
   have h2:=OpX.swap hoj (anF j oj hoj hji ars asR) (λcs b=>arq i oi cs b hi) (λcs b=>arq j oj cs b hoj) hy h1
   have apw:∀m om,ops[m]?=some om->m≠i->(l.setIfInBounds j true).getD m true=false->(∀e∈om.after,Region.binds .any e=true->e.on≠i)->oi.apart ops om=true:=λm om hm hmi hun PK=>by
    refine anF m om hm hmi ?_ PK;by_cases hjm:j=m
    .subst hjm;exact ars
    .rw[getD_set_ne true hjm]at hun;exact hun
   have Oc:j≠lst:=by
    rintro rfl;have h1:=Oo hdc nw j oj hoj xg hwt;have h0:=(mem_ready.1 hr).1;rcases bK i l.size with h'|h'
    .simp[h']at h0 h1;rw[h0]at h1;cases h1
    .simp[av8 h']at h1
   refine OpX.mono (λa' w' h3=>⟨λ_=>h3.2.1 Oc,ih (l.setIfInBounds j true) a' w' (hdc.set hj) apw hir h3.1 (h3.2.1 Oc) ?_⟩) h2;rw[Array.setIfInBounds_comm _ _ hji];exact h3.2.2
def dcB(ops:Array Oper)(l:Array Bool):Bool:=(List.range ops.size).all λj=>!l.getD j false||match ops[j]? with
 |some o=>o.after.all λe=>!Region.binds .any e||l.getD e.on false
 |none=>true
theorem ahT{l:Array Bool}(h:dcB ops l=true):DC ops l:=by intro j o ho hj e he hb;simp only[dcB,jB,jM]at h;have h1:=h j (eG.1 ho).1;simp only[hj,ho,jD,jS]at h1;have h2:=l9.1 h1 e he;simpa[hb]using h2
theorem su(T:Terms R D)(NW:∀x y,S x->R x y->S y)(RS:∀a x y,Q .normal a x->R x y->Q .normal a y){i:Nat}{oi:Oper}{v:ai}{k:Nat}{l:Array Bool}{a:Act}{w:ah}(hi:ops[i]?=some oi)
  (hs:Region.noSelect ops=true) (hf:Region.free .any ops l i=true) (hr:(Region.ready .any ops l).contains i=true) (hwt:waitsFor ops ops.size lst i=true) (hdc:dcB ops l=true)
  (hy:YieldsIfC P D fn ops S oi v a) (hS:S w) (h:IE P main R D fn ops nf Q S lst k (l.setIfInBounds i true) (a.put oi.dst v) w):IE P main R D fn ops nf Q S lst (k+1) l a w:=
 acN T NW RS hi (Region.noSelect_spec hs) hwt k l a w (ahT hdc) (Region.free_spec hi hf) (by simpa using hr) hy hS h
theorem Gq{i:Nat}{k:Nat}{l:Array Bool}{a:Act}{w:ah}(hr:Region.ready .any ops l=[i])(h:OpX P main R D fn ops nf i (λa' w'=>(i≠lst->S w')/\IE P main R D fn ops nf Q S lst k (l.setIfInBounds i true) a' w') a w):
  IE P main R D fn ops nf Q S lst (k+1) l a w:=
 ⟨λh0=>absurd (hr.symm.trans h0) aA,λj hj=>by rw[hr]at hj;obtain rfl:j=i:=iC;exact h⟩
theorem KH{l:Array Bool}{a:Act}{w:ah}(hr:Region.ready .any ops l=[])(h:Q .normal a w):∀k,IE P main R D fn ops nf Q S lst k l a w
 |0=>⟨hr,h⟩
 |_+1=>⟨λ_=>h,λi hi=>by rw[hr]at hi;cases hi⟩
theorem Aj(T:Terms R D)(hd:LetsDraw D){id:Nat}{a:Act}{w:ah}(hm:P.follows .mixedOrders=true)
  (h:∀w₁,R w w₁->IE P main R D fn ops nf Q S lst ops.size (Array.replicate ops.size false) a {w₁ with drawn:=w₁.drawn+1}):(Code.region id ops true).wpC P main R D fn (ops.size*(nf+3)+1+1) Q a w:=
 wpC_region_draw hd λw₁ h₁ t=>by simp only[Region.schedule,hm,Bool.true_or,aY];exact Ue T ops.size t _ a _ (h w₁ h₁)
end
end Go.Gh
namespace Go.Gh
open Go.Conc Go.ConcN Go.RowKit
open Go.ConcR (Payload)
section
variable {P:aP}{main:Bool}{R:ah->ah->Prop}{D:ah->ah->aN->Prop}
theorem YP{b:aS}{a:Act}{cs:aT}{w:ah}{fn:Func}{todo:dh}{c:aS}{v:ai}(hn:b.kind=.normal)(hd:a.defers=[])(hf:P.funcs[b.fn]?=some fn)(hr:(results fn a.tmps).run P w=.ok v w):
  stepG P main (G {b.at a todo with mode:=.returning} (c::cs)) w=.go (G (c.finish v) cs) w (seen P b.fn ((results fn a.tmps).events P w #[])):=by
 simp[G,stepG,unwind,doReturn,Frame.at,hn,hd,hf,hr,GStep.after]
def acO(P:aP)(main:Bool)(R:ah->ah->Prop)(D:ah->ah->aN->Prop)(f:aU)(args:aH)(n:Nat)(w:ah)(Post:ai->ah->Prop):Prop:=
 ∃fn c,P.funcs[f]?=some fn/\(fn.name== "runtime.NumGoroutine")=false/\fn.body=some c/\
  ∀(b:aS)(a:Act)(k:dh)(cs:aT)(ops:Array Oper)(i:Nat)(rest:aC)(Stop:aI->ah->Prop)(m:Nat),
   (∀v w',Post v w'->Goes P main R D Stop m (G (b.at (a.put ((ops[i]?).bind (·.dst)) v) (.inRegion ops rest::k)) cs) w')->
   Goes P main R D Stop (m+n) (G ((base f).at {tmps:=args++Array.replicate (fn.ntmps-args.size) undef,defers:=[]} [.code c]) (b.at a (.inRegion ops (i::rest)::k)::cs)) w
theorem V9(T:Terms R D){f:aU}{fn:Func}{c:Code}{args:aH}{n:Nat}{w:ah}{Post:ai->ah->Prop}{Q:Act->ah->Prop}(hf:P.funcs[f]?=some fn)(acx:(fn.name== "runtime.NumGoroutine")=false)(hb:fn.body=some c)
  (hq:∀a' w',Q a' w'->a'.defers=[]/\∀w₁,R w' w₁->∃v,(results fn a'.tmps).run P w₁=.ok v w₁/\D w₁ w₁ (seen P f ((results fn a'.tmps).events P w₁ #[]))/\Post v w₁)
  (h:c.wpC P main R D f n (λe a' w'=>match e with| .ret| .normal=>Q a' w'|_=>False) {tmps:=args++Array.replicate (fn.ntmps-args.size) undef,defers:=[]} w):acO P main R D f args (n+2) w Post:=by
 refine⟨fn,c,hf,acx,hb,λb a k cs ops i rest Stop m hK=>?_⟩
 have akL:∀(a':Act)(w':ah)(todo:dh),Q a' w'->Goes P main R D Stop (m+1) (G {(base f).at a' todo with mode:=.returning} (b.at a (.inRegion ops (i::rest)::k)::cs)) w':=by
  intro a' w' todo hQ;obtain⟨hd,hr⟩:=hq a' w' hQ;refine aQ rfl λw₁ h₁=>?_
  obtain⟨v,h1,h2,h3⟩:=hr w₁ h₁;rw[YP (b:=base f) rfl hd hf h1,Frame.finish_at];exact⟨h2,hK v w₁ h3⟩
 have:=h (base f) [] (b.at a (.inRegion ops (i::rest)::k)::cs) Stop (m+2) rfl (by simp[base]) λe a' w' q=>by
  cases e with
  |normal=>exact aQ rfl λw₁ h₁=>by rw[stepG_end];exact⟨T.idle _,(akL a' w' [] q).rely T.trans h₁⟩
  |ret=>exact λtodo=>(akL a' w' todo q).more
  |exit id=>exact q.elim
  |goto l=>exact q.elim
  |panic ch=>exact q.elim
  |outgrown=>exact q.elim
 exact this.mono ag
theorem acP(T:Terms R D){fn:aU}{Q:Exit->Act->ah->Prop}{a:Act}{w:ah}{ops:Array Oper}{i:Nat}{rest:aC}{o:Oper}{f:aU}{args:Array Operand}{ats:Array aG}{nf n:Nat}{Post:ai->ah->Prop}
  (ho:ops[i]?=some o) (hw:Region.wanted o (yielded ops a.tmps)=true) (uZ:o.op=.call {callee:=.value (.func f),args,argTypes:=ats})
  (art:acO P main R D f (args.map a.eval) nf w Post) (qZ:∀v w',Post v w'->OpsC P main R D fn ops rest n Q (a.put o.dst v) w'):OpsC P main R D fn ops (i::rest) (n+nf+1) Q a w:=by
 intro b k cs Stop m hb hk hc;obtain⟨g,c,hf,acx,aru,hG⟩:=art;have:=hG b a k cs ops i rest Stop (m+n) (λv w' p=>by rw[ho];exact qZ v w' p b k cs Stop m hb hk hc);have e:m+(n+nf+1)=(m+n+nf)+1:=ag;rw[e];exact aQ rfl λw₁ h₁=>goes_call ho hw hk uZ hf acx aru ⟨T.idle _,this.rely T.trans h₁⟩
end
section
variable [Payload](Wg C n B:Nat)(Cl S:Nat->Prop)
structure Ex(w w':ah):Prop where
 size:w.heap.size<=w'.heap.size
 tape:w'.tape=w.tape
 os:w'.os=w.os
 tag:IM w<=w.heap.size->IM w'<=w'.heap.size
 own:∀b,qQ w b->qQ w' b
 mine:∀b,qQ w b->¬S b->w'.heap[b]?=w.heap[b]?
 low:∀b,b<B->b≠Wg->b≠C->w'.heap[b]?=w.heap[b]?
 cell:∀i,Cl i->w'.cell? ⟨C,i,none⟩=w.cell? ⟨C,i,none⟩
 pay:PayAt C n w->PayAt C n w'
end
section
variable [Payload]{Wg C n B:Nat}{Cl S:Nat->Prop}{w w' w₁:ah}
theorem Ex.refl(w:ah):Ex Wg C n B Cl S w w:=⟨ay _,rfl,rfl,id,λ_=>id,λ_ _ _=>rfl,λ_ _ _ _=>rfl,λ_ _=>rfl,id⟩
theorem Ex.trans(h:Ex Wg C n B Cl S w w')(h':Ex Wg C n B Cl S w' w₁):Ex Wg C n B Cl S w w₁:=
 ⟨bF h.size h'.size,h'.tape.trans h.tape,h'.os.trans h.os,h'.tag∘h.tag,λb x=>h'.own b (h.own b x),λb x y=>(h'.mine b (h.own b x) y).trans (h.mine b x y),λb x y z=>(h'.low b x y z).trans (h.low b x y z),
  λi x=>(h'.cell i x).trans (h.cell i x),h'.pay∘h.pay⟩
theorem Ex.weaken{S':Nat->Prop}(h:Ex Wg C n B Cl S w w')(hs:∀b,S b->S' b):Ex Wg C n B Cl S' w w':=
 ⟨h.size,h.tape,h.os,h.tag,h.own,λb x y=>h.mine b x λz=>y (hs b z),h.low,h.cell,h.pay⟩
theorem Ro.ex(h:Ro Wg C n B Cl w w'):Ex Wg C n B Cl S w w':=
 ⟨h.size,h.tape,h.os,λ_=>fA h.tag,λb x=>(h.yx b).2 x,λb x _=>h.mine b x,h.low,h.cell,h.pay⟩
theorem Ex.rely(h:Ex Wg C n B Cl S w w')(r:Ro Wg C n B Cl w' w₁):Ex Wg C n B Cl S w w₁:=h.trans r.ex
theorem qj[qR]:Terms (Ro Wg C n B Cl) (Dg Wg C n B Cl):=⟨λ_ _ _ a b=>Ro.trans a b,λw=>Dg.idle w⟩
theorem aeI[qR]:LetsDraw (Dg Wg C n B Cl):=λw=>⟨ay _,rfl,rfl,λ_ _ _ _=>rfl,λ_ _=>rfl,id,aA⟩
omit [Payload]in
theorem sD(ho:w'.output=w.output)(hs:w.heap.size<=w'.heap.size){b:Nat}(h:qQ w b):qQ w' b:=by unfold qQ Uf IM at*;rw[ho];exact h.imp id λx=>⟨x.1,ag⟩
omit [Payload]in
theorem BX(ho:w'.output=w.output):IM w'=IM w:=by unfold IM;rw[ho]
omit [Payload]in
theorem zO(ho:w'.output=w.output)(ht:IM w<=w.heap.size){b:Nat}(h1:w.heap.size<=b)(h2:b<w'.heap.size):qQ w' b:=by refine .inr ⟨?_,h2⟩;rw[BX ho];omega
omit [Payload]in
theorem uT(w:ah)(o:Obj):(w.alloc o).heap.size=w.heap.size+1:=Array.size_push ..
omit [Payload]in
theorem sW(w:ah)(a:Addr)(v:ai):(w.setCell a v).heap.size=w.heap.size:=by simp[World.setCell]
omit [Payload]in
theorem alh(ht:∀b∈Uf w,b<w.heap.size){b:Nat}(h:qQ w b):b<w.heap.size:=h.elim (ht b) (·.2)
theorem Ex.alloc(hC:C<w.heap.size)(hB:B<=w.heap.size)(hm:∀b,qQ w b->b<w.heap.size)(o:Obj):Ex Wg C n B Cl S w (w.alloc o):=
 ⟨iE,rfl,rfl,λh=>by rw[BX (w:=w) (w':=w.alloc o) rfl,uT];omega,λb h=>sD (w:=w) (w':=w.alloc o) rfl iE h,λb h _=>dI _ _ _ (hm b h),λb h _ _=>dI _ _ _ ag,
  λi _=>lQ _ _ _ hC,λ⟨cs,h1,h2⟩=>⟨cs,(dI _ _ _ hC).trans h1,h2⟩⟩
theorem zx[qR](hC:C<w.heap.size)(o:Obj){es:aN}(he:es=#[]):Dg Wg C n B Cl w (w.alloc o) es:=by subst he;exact⟨iE,rfl,rfl,λb h _ _=>dI _ _ _ h,λi _=>lQ _ _ _ hC,λ⟨cs,h1,h2⟩=>⟨cs,(dI _ _ _ hC).trans h1,h2⟩,aA⟩
theorem Ex.set{a:Addr}{v:ai}(hne:a.block≠C)(hS:S a.block)(hl:¬(a.block<B/\a.block≠Wg)):Ex Wg C n B Cl S w (w.setCell a v):=
 ⟨eY,rfl,rfl,λh=>by rw[BX (w:=w) (w':=w.setCell a v) rfl,sW];exact h,λb h=>sD (w:=w) (w':=w.setCell a v) rfl eY h,λb _ h=>dA _ _ _ _ (λe=>h (e▸hS)),λb h1 h2 _=>dA _ _ _ _ (λe=>hl (by rw[<-e];exact⟨h1,h2⟩)),
  λi _=>oG _ _ _ _ (λe=>hne iV),λ⟨cs,h1,h2⟩=>⟨cs,(dA _ _ _ _ (dE hne)).trans h1,h2⟩⟩
theorem P5[qR]{a:Addr}{v:ai}(hm:qQ w a.block)(hne:a.block≠C)(ha:a.block<w.heap.size){es:aN}(he:∀e∈es,∃b wr,e=⟨.cell b,wr,false⟩/\b.block=a.block):Dg Wg C n B Cl w (w.setCell a v) es:=by refine⟨eY,rfl,rfl,λb _ hb _=>dA _ _ _ _ (λe=>hb (e▸hm)),λi _=>oG _ _ _ _ (λe=>hne iV),λ⟨cs,h1,h2⟩=>⟨cs,(dA _ _ _ _ (dE hne)).trans h1,h2⟩,λe LM=>?_⟩;obtain⟨b,wr,rfl,hb⟩:=he e LM;exact⟨b,wr,rfl,eY,.inl (by rw[hb];exact hm)⟩
variable [qR]
def Sj(Wg C B:Nat)(w:ah)(b:Nat):Prop:=qQ w b\/(b<B/\b≠Wg/\b≠C/\¬qR.old b)
theorem tH{b:Nat}(hr:Sj Wg C B w b)(hb:b<w.heap.size){es:aN}(he:∀e∈es,∃a:Addr,e=⟨.cell a,false,false⟩/\a.block=b):Dg Wg C n B Cl w w es:=by refine⟨ay _,rfl,rfl,λ_ _ _ _=>rfl,λ_ _=>rfl,id,λe LM=>?_⟩;obtain⟨a,rfl,ha⟩:=he e LM;exact⟨a,false,rfl,ag,hr.elim (λx=>.inl (by rw[ha];exact x)) λx=>.inr (.inr (.inr (by rw[ha];exact⟨x.1,x.2.1,x.2.2.1,rfl,x.2.2.2⟩)))⟩
theorem Ex.rdb(h:Ex Wg C n B Cl S w w'){b:Nat}(hr:Sj Wg C B w b):Sj Wg C B w' b:=hr.imp (h.own b) id
theorem Ex.stands(h:Ex Wg C n B Cl S w w'){b:Nat}(hr:Sj Wg C B w b)(hS:¬S b):w'.heap[b]?=w.heap[b]?:=hr.elim (λx=>h.mine b x hS) λx=>h.low b x.1 x.2.1 x.2.2.1
end
end Go.Gh
namespace Go.Proofs.Y
open Go.Proofs.Tryz
open Go.RowKit
theorem G8{k:IntKind}{a b:Int}(h:a=b):Ending.returned (.int k a)=.returned (.int k b):=iU
theorem anh{a:Nat}(h:128<=a):bits .xor .u8 ((a:Int)*2%256) 29=((tx a:Nat):Int):=by have e:((a:Int)*2%256)=((a*2%256:Nat):Int):=ag;rw[e,show(29:Int)=((29:Nat):Int)from rfl,u8_xor_nat _ _ ag ag,tx,ax h,fQ]
theorem ani{a:Nat}(h:¬128<=a):(a:Int)*2=((tx a:Nat):Int):=by rw[tx,au h];omega
theorem Ug(a:Nat)(ha:a<256)(w:ah):
  Calls prog 137 #[.int .u8 (a:Int)] w λe w'=>e=.returned (.int .u8 (tx a:Nat))/\w'=w:=by
 by_cases h:128<=a
 .go_enter func137,ntmps137;go_wp2;go_ret;exact⟨G8 (anh h),rfl⟩
 .go_enter func137,ntmps137;go_wp2;go_ret;exact⟨G8 (ani h),rfl⟩
theorem acQ{x y:Int}(h:x=y):Value.int .u8 x=Value.int .u8 y:=iU
theorem Tv{x y:Int}(h:x=y):Value.int .i64 x=Value.int .i64 y:=iU
theorem aeJ(y:Nat)(hy:y<256):bits .and .u8 (y:Int) 1=((y%2:Nat):Int):=by rw[show(1:Int)=((1:Nat):Int)from rfl,u8_and_nat _ _ hy ag,Nat.and_one_is_mod]
theorem aan{x y:Nat}(hx:x<256)(hy:y<256):bits .xor .u8 (x:Int) (y:Int)=((x^^^y:Nat):Int):=u8_xor_nat _ _ hx hy
theorem P6{k p x y m:Nat}(hk:k<8)(H:Fb (8-k) p x y=m):
  Fb (8-(k+1)) (if y%2=1 then p^^^x else p) (tx x) (y/2)=m:=by
 obtain⟨n,hn⟩:∃n,8-k=n+1:=⟨8-k-1,ag⟩;have e:8-(k+1)=n:=ag;rw[e];rw[hn,Fb]at H;exact H
theorem anb(a b:Nat)(ha:a<256)(hb:b<256)(w:ah):
  Calls prog 123 #[.int .u8 (a:Int),.int .u8 (b:Int)] w λe w'=>e=.returned (.int .u8 (mul a b:Nat))/\w'=w:=by
 go_enter func123,ntmps123;go_wp2
 go_loop [0,1,5,6] (λva vb vp vi=>∃k p x y:Nat,k<=8/\p<256/\x<256/\y<256/\va=.int .u8 (x:Int)/\vb=.int .u8 (y:Int)/\vp=.int .u8 (p:Int)/\vi=.int .i64 (k:Int)/\Hid (Fb (8-k) p x y=mul a b)) (λ_ _ _ i=>8-(intOf i).toNat)
 case atStart=>exact⟨0,0,a,b,ag,ag,ha,hb,rfl,rfl,rfl,rfl,rfl⟩
 case round=>
  obtain⟨k,p,x,y,hk,hp,hx,hy,rfl,rfl,rfl,rfl,H⟩:=hrel;by_cases qB:k<8
  .have hand:=aeJ y hy
   go_wp2_with(first|(go_at_call 137;refine(Ug _ dG _).mono ?_;rintro e w' ⟨rfl,rfl⟩))
   .have h1:((y:Int)%2==1)=true:=dG;have h2:y%2=1:=qh;have G:=P6 qB H.out;rw[ax h2]at G
    go_round
    case rel=>exact⟨k+1,p^^^x,tx x,y/2,ag,CV hp hx,MB hx,ag,rfl,acQ ag,acQ (aan hp hx),aV,G⟩
    case measure=>simp[intOf];omega
   .have h1:((y:Int)%2==1)=false:=dG;have h2:¬y%2=1:=qh;have G:=P6 qB H.out;rw[au h2]at G
    go_round
    case rel=>exact⟨k+1,p,tx x,y/2,ag,hp,MB hx,ag,rfl,acQ ag,rfl,aV,G⟩
    case measure=>simp[intOf];omega
  .have e:k=8:=ag;subst e;have G:p=mul a b:=H.out;have HG:Hid (p=mul a b):=G;clear G H;go_wp2;go_ret;exact⟨G8 n_,rfl⟩
theorem Xm{k p v m:Nat}(hk:k<7)(H:acK (7-k) p v=m):acK (7-(k+1)) (mul p p) (mul v (mul p p))=m:=by obtain⟨n,hn⟩:∃n,7-k=n+1:=⟨7-k-1,ag⟩;have e:7-(k+1)=n:=ag;rw[e];rw[hn,acK]at H;exact H
theorem aeK(a:Nat)(ha:a<256)(w:ah):
  Calls prog 94 #[.int .u8 (a:Int)] w λe w'=>e=.returned (.int .u8 (inv a:Nat))/\w'=w:=by
 go_enter func94,ntmps94;go_wp2
 go_loop [3,4,6] (λvp vv vi=>∃k p v:Nat,k<=7/\p<256/\v<256/\vp=.int .u8 (p:Int)/\vv=.int .u8 (v:Int)/\vi=.int .i64 (k:Int)/\Hid (acK (7-k) p v=inv a)) (λ_ _ i=>7-(intOf i).toNat)
 case atStart=>exact⟨0,a,1,ag,ha,ag,rfl,rfl,rfl,rfl⟩
 case round=>
  obtain⟨k,p,v,hk,hp,hv,rfl,rfl,rfl,H⟩:=hrel;by_cases qB:k<7
  .have hpp:mul p p<256:=mul_lt hp
   go_wp2_with(first|(go_at_call 123;refine(anb _ _ dG dG _).mono ?_;rintro e w' ⟨rfl,rfl⟩))
   go_round
   case rel=>exact⟨k+1,mul p p,mul v (mul p p),ag,mul_lt hp,mul_lt hv,rfl,rfl,aV,Xm qB H.out⟩
   case measure=>simp[intOf];omega
  .have e:k=7:=ag;subst e;have HG:Hid (v=inv a):=H.out;clear H;go_wp2;go_ret;exact⟨G8 n_,rfl⟩
end Go.Proofs.Y
namespace Go.Proofs.Y
open Go.Proofs.Tryz
open Go.Conc Go.RowKit Go.Gh
open Go.ConcR (Payload)
section
variable {main:Bool}{R:ah->ah->Prop}{D:ah->ah->aN->Prop}
theorem aao(T:Terms R D):∃n,∀(a:Nat)(w:ah),a<256->CallsC prog main R D 137 #[.int .u8 (a:Int)] n w λv w'=>v=.int .u8 (tx a:Nat)/\Since R w w':=by
 co_apply Exists.intro;intro a w ha;co_apply callsC_of_wpC func137 aF rfl;have hF:Since R w w:=.refl w;simp only[ntmps137,fH,dQ,d_,Nat.reduceAdd,Nat.reduceSub,eU,eQ,eH,eP,dw,df]
 co_go T (Since.rely T) hF (co_quiet T)
 co_split T (decide ((128:Int)<=(a:Int)))
 .intro hx;have hx':128<=a:=by have:=fK hx;omega
  co_go T (Since.rely T) hF (co_quiet T)
  refine⟨rfl,_,resultsC_tmp aF _,?_,hF⟩;have e:IntKind.u8.wrap ((a:Int)*2)=(a:Int)*2%256:=by rw[auW]
  simp only[l7,oZ,jh,jg,bf];rw[e,anh hx']
 .intro hx;have hx':¬128<=a:=by have:=gQ hx;omega
  co_go T (Since.rely T) hF (co_quiet T)
  refine⟨rfl,_,resultsC_tmp aF _,?_,hF⟩;have e:IntKind.u8.wrap ((a:Int)*2)=(a:Int)*2:=by rw[auW];omega
  simp only[l7,oZ,jh,jg,bf];rw[e,ani hx']
end
def zQ(f m:Nat):aH:=Array.ofFn (λx:Fin 256=>.int .u8 ((if x.val<m then mul x.val f else 0:Nat):Int))
theorem DN(f:Nat):Tryz.zeroCells197=zQ f 0:=by have e:Tryz.zeroCells197=Array.replicate 256 (.int .u8 0):=ak;rw[e];apply nO;intro i;by_cases h:i<256<;>simp[zQ,h]
theorem BZ(f m x:Nat)(hx:x<256):(zQ f m)[x]?=some (.int .u8 ((if x<m then mul x f else 0:Nat):Int)):=by simp[zQ,hx]
theorem Oq(f m:Nat):(zQ f m).setIfInBounds m (.int .u8 ((mul m f:Nat):Int))=zQ f (m+1):=by
 apply nO;intro i;rw[pO];simp only[zQ,Array.size_ofFn,Array.getElem?_ofFn];by_cases h:m=i
 .subst h;simp
 .rw[au h];by_cases hi:i<256
  .simp only[hi,dite_true]
   congr 3
   by_cases h1:i<m
   .rw[ax h1,ax ag]
   .rw[au h1,au ag]
  .simp[hi]
theorem ahU:∀(k:Fin 7)(f:Fin 256),tx (mul (2^k.val) f.val)=mul (2^(k.val+1)) f.val:=f_
theorem pow_add(k:Fin 8)(j f:Nat)(hj:j<2^k.val):mul (2^k.val+j) f=mul j f^^^mul (2^k.val) f:=by
 have hk:2^k.val<=128:=by have:∀k:Fin 8,2^k.val<=128:=aB;exact this k
 have e:2^k.val+j=j^^^2^k.val:=by
  have:=avT hj 1;simp only[ja]at this;rw[this,jA];apply avX;intro i;simp only[Nat.testBit_or,Nat.testBit_xor,Nat.testBit_two_pow];by_cases h1:k.val=i
  .subst h1;simp[Nat.testBit_lt_two_pow hj]
  .simp[h1]
 rw[e,xq f ag ag]
theorem cell_of(w:ah){N:Nat}{c:aH}{t:aG}(h:w.heap[N]?=some (.cells c t))(i:Nat):w.cell? ⟨N,i,none⟩=c[i]?:=by simp[World.cell?,h]
theorem wo(w:ah){N:Nat}{c:aH}{t:aG}(h:w.heap[N]?=some (.cells c t))(i:Nat):w.frozen? ⟨N,i,none⟩=false:=by simp[World.frozen?,h]
theorem heap_set(w:ah){N:Nat}{c:aH}{t:aG}(h:w.heap[N]?=some (.cells c t))(i:Nat)(v:ai):(w.setCell ⟨N,i,none⟩ v).heap[N]?=some (.cells (c.setIfInBounds i v) t):=by simp[World.setCell,iy,h]
section
variable [Payload][qR]{main:Bool}{Wg C n B:Nat}{Cl:Nat->Prop}
structure Bs(C B:Nat)(w:ah):Prop where
 tg:IM w<=w.heap.size
 hC:C<w.heap.size
 hB:B<=w.heap.size
 ow:∀b∈Uf w,b<w.heap.size
omit [Payload][qR]in
theorem Bs.lt{w:ah}(h:Bs C B w){b:Nat}(hb:qQ w b):b<w.heap.size:=alh h.ow hb
omit [qR]in
theorem Bs.rely{w w₁:ah}(h:Bs C B w)(r:Ro Wg C n B Cl w w₁):Bs C B w₁:=
 ⟨fA r.tag,bH h.hC r.size,bF h.hB r.size,λb hb=>bH (h.lt ((r.own b).1 hb)) r.size⟩
omit [Payload][qR]in
theorem Bs.alloc{w:ah}(h:Bs C B w)(o:Obj):Bs C B (w.alloc o):=
 ⟨by rw[BX (w:=w) (w':=w.alloc o) rfl,uT];have:=h.tg;omega,by rw[uT];have:=h.hC;omega,by rw[uT];have:=h.hB;omega,λb hb=>by rw[uT];have:=h.ow b hb;omega⟩
omit [Payload][qR]in
theorem Bs.set{w:ah}(h:Bs C B w)(a:Addr)(v:ai):Bs C B (w.setCell a v):=
 ⟨by rw[BX (w:=w) (w':=w.setCell a v) rfl,sW];exact h.tg,by rw[sW];exact h.hC,by rw[sW];exact h.hB,λb hb=>by rw[sW];exact h.ow b hb⟩
structure PF(Wg C n B:Nat)(Cl:Nat->Prop)(w0:ah)(N2 N3 f m:Nat)(w:ah):Prop where
 bs:Bs C B w
 ex:Ex Wg C n B Cl (λ_=>False) w0 w
 lo2:w0.heap.size<=N2
 lo3:w0.heap.size<=N3
 ne:N2≠N3
 m2:qQ w N2
 m3:qQ w N3
 h2:w.heap[N2]?=some (.cells Tryz.zeroCells197 197)
 h3:w.heap[N3]?=some (.cells (zQ f m) 197)
omit [qR]in
theorem PF.rely{w0 w w₁:ah}{N2 N3 f m:Nat}(h:PF Wg C n B Cl w0 N2 N3 f m w)(r:Ro Wg C n B Cl w w₁):PF Wg C n B Cl w0 N2 N3 f m w₁:=
 ⟨h.bs.rely r,h.ex.rely r,h.lo2,h.lo3,h.ne,(r.yx _).2 h.m2,(r.yx _).2 h.m3,(r.mine _ h.m2).trans h.h2,(r.mine _ h.m3).trans h.h3⟩
omit [qR]in
theorem aap{w0 w:ah}{S:Nat->Prop}(h:Ex Wg C n B Cl S w0 w)(hb:Bs C B w0){a:Addr}(ha:w0.heap.size<=a.block)(v:ai):Ex Wg C n B Cl S w0 (w.setCell a v):=by
 have hC:=hb.hC;have hB:=hb.hB
 refine⟨by rw[sW];exact h.size,h.tape,h.os,λht=>by rw[BX (w:=w) (w':=w.setCell a v) rfl,sW];exact h.tag ht,λb x=>sD (w:=w) (w':=w.setCell a v) rfl eY (h.own b x),
  λb x y=>(dA _ _ _ _ (λe=>by have:=hb.lt x;omega)).trans (h.mine b x y),λb h1 h2 h3=>(dA _ _ _ _ (λe=>ag)).trans (h.low b h1 h2 h3),
  λi x=>(oG _ _ _ _ (λe=>by rw[e]at ha;dsimp only at ha;omega)).trans (h.cell i x),λp=>?_⟩
 obtain⟨cs,h1,h2⟩:=h.pay p;exact⟨cs,(dA _ _ _ _ ag).trans h1,h2⟩
omit [qR]in
theorem Uh{w0 w:ah}{S:Nat->Prop}(h:Ex Wg C n B Cl S w0 w)(hb:Bs C B w)(o:Obj):Ex Wg C n B Cl S w0 (w.alloc o):=h.trans (Ex.alloc hb.hC hb.hB (λ_ x=>hb.lt x) o)
omit [qR]in
theorem PF.set{w0 w:ah}(h0:Bs C B w0){N2 N3 f m:Nat}(h:PF Wg C n B Cl w0 N2 N3 f m w):PF Wg C n B Cl w0 N2 N3 f (m+1) (w.setCell ⟨N3,m,none⟩ (.int .u8 ((mul m f:Nat):Int))):=
 ⟨h.bs.set _ _,aap h.ex h0 h.lo3 _,h.lo2,h.lo3,h.ne,sD (w:=w) (w':=w.setCell _ _) rfl eY h.m2,sD (w:=w) (w':=w.setCell _ _) rfl eY h.m3,
  (dA _ _ _ _ h.ne).trans h.h2,by rw[heap_set w h.h3,Oq]⟩
def aeL(k b:Nat):Prop:=b=2^k
def PO(Wg C n B:Nat)(Cl:Nat->Prop)(w0:ah)(N2 N3 f:Nat)(a:Act)(w:ah):Prop:=
 ∃(k b fa:Nat)(v1 v5 v6 v7 v8 v9 v10 v11 v12 VP Xf S9 S_ Tc PS PU v20 v21 v22 TK v24 TL v26:ai),k<=8/\aeL k b/\(k<8->fa=mul b f)/\PF Wg C n B Cl w0 N2 N3 f b w/\a={tmps:=#[.int .u8 ((fa:Nat):Int),v1,.pointer (some ⟨N2,0,none⟩),.pointer (some ⟨N3,0,none⟩),.int .i64 ((b:Nat):Int),v5,v6,v7,v8,v9,v10,v11,v12,VP,Xf,S9,S_,Tc,PS,PU,v20,v21,v22,TK,v24,TL,v26],defers:=[]}
def PI(Wg C n B:Nat)(Cl:Nat->Prop)(w0:ah)(N2 N3 f b:Nat)(a:Act)(w:ah):Prop:=
 ∃(j:Nat)(v1 v5 v6 v7 v8 v9 v12 VP Xf S9 S_ Tc PS PU v20 v21 v22 TK v24 TL v26:ai),j<=b/\PF Wg C n B Cl w0 N2 N3 f (b+j) w/\a={tmps:=#[.int .u8 ((mul b f:Nat):Int),v1,.pointer (some ⟨N2,0,none⟩),.pointer (some ⟨N3,0,none⟩),.int .i64 ((b:Nat):Int),v5,v6,v7,v8,v9,.int .i64 ((b:Nat):Int),.int .i64 ((j:Nat):Int),v12,VP,Xf,S9,S_,Tc,PS,PU,v20,v21,v22,TK,v24,TL,v26],defers:=[]}
def muO(a:Act)(_:ah):Nat:=match a.tmps.getD 4 undef with| .int _ j=>256-j.toNat|_=>0
def muI(a:Act)(_:ah):Nat:=match a.tmps.getD 11 undef with| .int _ j=>256-j.toNat|_=>0
end
section
variable {P:aP}
theorem G9(a:Addr):∀(n i:Nat)(acc:aH)(w:ah)(es:aN),(∀j,j<n->∃v,w.cell? (a.add (i+j))=some v)->
  ∀e∈(loadCellsFrom a i n acc).events P w es,e∈es\/∃b:Addr,e=⟨.cell b,false,false⟩/\b.block=a.block
 |0,_,_,_,_,_=>λe h=>.inl (by simpa[loadCellsFrom]using h)
 |n+1,i,acc,w,es,hc=>λe h=>by
  obtain⟨u,hu⟩:=hc 0 ag;simp only[fF]at hu;have hr:(load (a.add i)).run P w=.ok u w:=by simp[hu]
  have he:(load (a.add i)).events P w es=es.push ⟨.cell (a.add i),false,false⟩:=by rw[events_load,hu];rfl
  simp only[loadCellsFrom,Sem.events_bind,hr,he]at h;rcases G9 a n (i+1) (acc.push u) w _ (λj hj=>by have:=hc (j+1) ag;rwa[show i+(j+1)=i+1+j by omega]at this) e h with h|h
  .rcases kY.1 h with h|rfl
   .exact .inl h
   .exact .inr ⟨_,rfl,by unfold Addr.add;split<;>rfl⟩
  .exact .inr h
theorem add_plain(N o i:Nat):(⟨N,o,none⟩:Addr).add i=⟨N,o+i,none⟩:=by simp[Addr.add]
theorem FQ(N:Nat)(t:aG):∀(vs:aK)(i:Nat)(cur:aH)(w:ah)(es:aN),w.heap[N]?=some (.cells cur t)->i+vs.length<=cur.size->(∀v∈vs,v.oneCell'=true)->
  ∀e∈(storeCells ⟨N,0,none⟩ vs i).events P w es,e∈es\/∃b:Addr,e=⟨.cell b,true,false⟩/\b.block=N
 |[],_,_,_,_,_,_,_=>λe h=>.inl (by simpa[storeCells]using h)
 |v::rest,i,cur,w,es,hg,hl,h1=>λe h=>by
  have hi:i<cur.size:=by simp at hl;omega
  have hc:w.cell? ⟨N,i,none⟩=some cur[i]:=by rw[cell_of w hg];simp[hi]
  have hz:=wo w hg i;have hv:=h1 v aA;have ha:(⟨N,0,none⟩:Addr).add i=⟨N,i,none⟩:=by rw[add_plain,bJ]
  have hr:(store ⟨N,i,none⟩ v).run P w=.ok () (w.setCell ⟨N,i,none⟩ v):=by cases v<;>first|(simp[Value.oneCell']at hv;done)|simp[store,Sem.run,hc,hz]
  have he:(store ⟨N,i,none⟩ v).events P w es=es.push ⟨.cell ⟨N,i,none⟩,true,false⟩:=by rw[events_store P w es _ _ _ hv,hc];simp[hz];rfl
  simp only[storeCells,Sem.events_bind,ha,hr,he]at h;rcases FQ N t rest (i+1) (cur.setIfInBounds i v) (w.setCell ⟨N,i,none⟩ v) _ (heap_set w hg i v) (by simp at hl⊢;omega) (λu hu=>h1 u (by simp[hu])) e h with h|h
  .rcases kY.1 h with h|rfl
   .exact .inl h
   .exact .inr ⟨_,rfl,rfl⟩
  .exact .inr h
variable {ρ:Operand->ai}{o:Oper}{t:aG}{x y:Operand}{N:Nat}{w w':ah}{v:ai}
theorem QQ(ho:o.op=.load t x)(hx:ρ x=.pointer (some ⟨N,0,none⟩))(hl:(loadVar t ⟨N,0,none⟩).run P w=.ok v w):(execOp ρ o).run P w=.ok (.value v) w:=by simp[execOp,ho,hx,Instr.loadAt,Instr.sureAddr,hl]
theorem acR(ho:o.op=.load t x)(hx:ρ x=.pointer (some ⟨N,0,none⟩)):(execOp ρ o).events P w #[]=(loadVar t ⟨N,0,none⟩).events P w #[]:=by simp[execOp,ho,hx,Instr.loadAt,Instr.sureAddr]
theorem Ot(ho:o.op=.store t x y)(hx:ρ x=.pointer (some ⟨N,0,none⟩))(hy:ρ y=v)(hl:(storeVar t ⟨N,0,none⟩ v).run P w=.ok () w'):(execOp ρ o).run P w=.ok .skip w':=by simp[execOp,ho,hx,hy,Instr.storeAt,Instr.sureAddr,hl]
theorem QR(ho:o.op=.store t x y)(hx:ρ x=.pointer (some ⟨N,0,none⟩))(hy:ρ y=v):(execOp ρ o).events P w #[]=(storeVar t ⟨N,0,none⟩ v).events P w #[]:=by simp[execOp,ho,hx,hy,Instr.storeAt,Instr.sureAddr]
theorem P7{fn:Func}{s:Tmp}{tmps:aH}(hr:fn.results=#[.cell s t])(hs:tmps.getD s undef=.pointer (some ⟨N,0,none⟩))(hl:(loadVar t ⟨N,0,none⟩).run P w=.ok v w):
  (results fn tmps).run P w=.ok v w/\(results fn tmps).events P w #[]=(loadVar t ⟨N,0,none⟩).events P w #[]:=by
 simp only[l7]at hs;constructor<;>simp[results,hr,hs,asAddr,hl]
end
section
theorem ali:(prog.info? 197).map (·.size)=some 256:=ak
theorem ap0(w:ah)(es:aN):(isAgg 197).run prog w=.ok true w/\(isAgg 197).events prog w es=es:=by constructor<;>simp[isAgg]
theorem ap1(w:ah)(es:aN):(sizeOf 197).run prog w=.ok 256 w/\(sizeOf 197).events prog w es=es:=by
 have h:=ali;cases hi:prog.info? 197 with
 |none=>rw[hi]at h;cases h
 |some i=>
  rw[hi]at h;simp only[fM,gW]at h;constructor<;>simp[sizeOf,typeInfo,hi,h]
theorem Ui{w:ah}{N:Nat}{c:aH}(h:w.heap[N]?=some (.cells c 197))(hc:c.size=256):∀e∈(loadVar 197 ⟨N,0,none⟩).events prog w #[],∃b:Addr,e=⟨.cell b,false,false⟩/\b.block=N:=by
 intro e he;simp only[loadVar,Sem.events_bind,(ap0 w _).2,Result.evThen,loadCells]at he
 have hev:e∈(loadCellsFrom ⟨N,0,none⟩ 0 256 #[]).events prog w #[]:=by generalize(loadCellsFrom ⟨N,0,none⟩ 0 256 #[]).run prog w=r at he;cases r<;>simpa using he
 rcases G9 ⟨N,0,none⟩ 256 0 #[] w #[] (λj hj=>⟨c[j]' ag,by rw[add_plain,cell_of w h];simp[hc,hj]⟩) e hev with h|h
 .simp at h
 .exact h
theorem QS{w:ah}{N:Nat}{c c':aH}(h:w.heap[N]?=some (.cells c 197))(hc:c.size=256)(V3:c'.size=256)(h1:∀v∈c',v.oneCell'=true):
  ∀e∈(storeVar 197 ⟨N,0,none⟩ (.agg c')).events prog w #[],∃b:Addr,e=⟨.cell b,true,false⟩/\b.block=N:=by
 intro e he;have hv:(Value.agg c').cells=c':=rfl;simp only[storeVar,Sem.events_bind,(ap1 w _).2,Result.evThen,hv,V3,ne_eq]at he;have hev:e∈(storeCells ⟨N,0,none⟩ c'.toList 0).events prog w #[]:=by simpa using he
 rcases FQ N 197 c'.toList 0 c w #[] h aJ (λv hv=>h1 v (by simpa using hv)) e hev with h|h
 .simp at h
 .exact h
theorem Jn{w:ah}{N:Nat}{c:aH}(h:w.heap[N]?=some (.cells c 197))(hc:c.size=256):(loadVar 197 ⟨N,0,none⟩).run prog w=.ok (.agg c) w:=
 auB w N _ _ c (0,0) _ h underlying197 rfl (by rw[hc];exact ali)
theorem Ou{w:ah}{N:Nat}{c c':aH}(h:w.heap[N]?=some (.cells c 197))(hc:c.size=256)(V3:c'.size=256)(h1:∀v∈c',v.oneCell'=true):
  (storeVar 197 ⟨N,0,none⟩ (.agg c')).run prog w=.ok () (w.setRow N c'):=
 run_storeVar_row w N _ _ c c' h (by rw[V3];exact ali) ag (l9.2 h1)
theorem Ov{w:ah}{N:Nat}{c:aH}{t:aG}(c':aH)(h:w.heap[N]?=some (.cells c t)):(w.setRow N c').heap[N]?=some (.cells c' t):=by simp[World.setRow,iy,h]
theorem ui(w:ah){N b:Nat}(c':aH)(h:b≠N):(w.setRow N c').heap[b]?=w.heap[b]?:=by simp[World.setRow,iy,dE h]
theorem xu(w:ah)(N:Nat)(c':aH):(w.setRow N c').heap.size=w.heap.size:=by simp[World.setRow]
end
section
variable [Payload][qR]{main:Bool}{Wg C n B:Nat}{Cl:Nat->Prop}
omit [Payload][qR]in
theorem Bs.row{w:ah}(h:Bs C B w)(N:Nat)(c':aH):Bs C B (w.setRow N c'):=
 ⟨by rw[BX (w:=w) (w':=w.setRow N c') rfl,xu];exact h.tg,by rw[xu];exact h.hC,by rw[xu];exact h.hB,λb hb=>by rw[xu];exact h.ow b hb⟩
omit [Payload][qR]in
theorem Ak(w:ah){N:Nat}(c':aH){a:Addr}(h:a.block≠N):(w.setRow N c').cell? a=w.cell? a:=by simp[World.cell?,ui w c' h]
omit [qR]in
theorem acS{w0 w:ah}{S:Nat->Prop}(h:Ex Wg C n B Cl S w0 w)(hb:Bs C B w0){N:Nat}(ha:w0.heap.size<=N)(c':aH):Ex Wg C n B Cl S w0 (w.setRow N c'):=by
 have hC:=hb.hC;have hB:=hb.hB
 refine⟨by rw[xu];exact h.size,h.tape,h.os,λht=>by rw[BX (w:=w) (w':=w.setRow N c') rfl,xu];exact h.tag ht,λb x=>sD (w:=w) (w':=w.setRow N c') rfl iR (h.own b x),
  λb x y=>(ui w c' (by have:=hb.lt x;omega)).trans (h.mine b x y),λb h1 h2 h3=>(ui w c' ag).trans (h.low b h1 h2 h3),
  λi x=>(Ak w c' (by dsimp only;omega)).trans (h.cell i x),λp=>?_⟩
 obtain⟨cs,h1,h2⟩:=h.pay p;exact⟨cs,(ui w c' ag).trans h1,h2⟩
theorem ahV{w:ah}{N:Nat}{c':aH}(hm:qQ w N)(hne:N≠C)(hb:N<w.heap.size){es:aN}(he:∀e∈es,∃b:Addr,e=⟨.cell b,true,false⟩/\b.block=N):Dg Wg C n B Cl w (w.setRow N c') es:=by refine⟨iR,rfl,rfl,λb _ A8 _=>ui w c' (λe=>A8 (e▸hm)),λi _=>Ak w c' (dE hne),λ⟨cs,h1,h2⟩=>⟨cs,(ui w c' (dE hne)).trans h1,h2⟩,λe LM=>?_⟩;obtain⟨b,rfl,Ah⟩:=he e LM;exact⟨b,true,rfl,iR,.inl (by rw[Ah];exact hm)⟩
