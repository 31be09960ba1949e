import Derived.Test.YtnbflnamlpodcaaGreatDoorLfJ
import Derived.Handed
import Derived.Test.YtnbflnamlpodcaaGreatDoorProg
import Derived.Conc.CompanyMem
namespace Go.Lf
open Go.Conc
section
variable {P:aN}{F:aU->Bool}{X:Nat->Prop}{Y:Nat->aV}{D:Nat->ah->aH->Prop}{Stop:aG->ah->Prop}{Φ:aG->ah->Prop}{f:aU}{k:b_}{cs:aP}{a:Act}{v v':ah}{ops:Array Oper}{i:Nat}{rest:aA}{o:Oper}{u:ai}
theorem eval_func(a:Act)(g:aU):a.eval (.func g)=.func (.func g) #[] #[]:=rfl
theorem aij(hF:xY P F)(Em:alW P F o=true){x:Next}(sW:(execOp a.eval o).run P v=.ok x v'){w:ah}(hs:xZ X Y w v)(fn:aU):
  ∃w',(execOp a.eval o).run P w=.ok x w'/\xZ X Y w' v'/\w.heap.size<=w'.heap.size/\OM X w' (listed P fn a o w):=by
 obtain⟨vY,_⟩:=Zn hF (tmps:=a.tmps) (ρ:=a.eval) (eval_func a) (λ_=>rfl) GM.nil Em;obtain⟨w',h1,h2,h3,h4⟩:=vY.WM w v #[] x v' ((execOp a.eval o).events P v #[]) hs (by rw[Sem.runT_eq,sW]);rw[Sem.runT_eq,nH]at h1;refine⟨w',h1.1,h2,by rw[hs.size,h2.size];exact h3,λe he=>?_⟩;unfold listed at he;rw[h1.2]at he;exact(h4 e (mem_seen he)).resolve_left ax
theorem FK{id:Nat}(hD:uU X D)(hr:uA P X Y D Stop f cs (.inRegion ops (List.range ops.size)::k) a v):uA P X Y D Stop f cs (.code (.region id ops false)::k) a v:=Jt hD (λ_=>dS) hr
theorem aaT(hD:uU X D)(hr:uA P X Y D Stop f cs k a v):uA P X Y D Stop f cs (.inRegion ops []::k) a v:=Jt hD (λ_=>bf) hr
theorem alX(hF:xY P F)(hD:uU X D)(ho:ops[i]?=some o)(hw:Region.wanted o (yielded ops a.tmps)=true)(Em:alW P F o=true)(sW:∀τ d,∃v',(execOp a.eval o).run P {v with tape:=τ,drawn:=d}=.ok (.value u) v'/\uA P X Y D Stop f cs (.inRegion ops rest::k) (a.put o.dst u) v'):uA P X Y D Stop f cs (.inRegion ops (i::rest)::k) a v:=by
 intro w hs;refine .next rfl λd=>?_
 obtain⟨v',h0,h⟩:=sW (λp=>w.tape (d+p)) 0;obtain⟨w',h1,h2,h3,h4⟩:=aij hF Em h0 (hs.re d 0 (λp=>w.tape (d+p)) λi q=>ax) f;exact⟨_,_,_,stepG_value (b:=base f) ho hw oH h1,hD _ _ _ h3 h4,h w' h2.t⟩
theorem Ju(hD:uU X D)(ha:a.defers=[]){fn:Func}(hf:P.funcs[f]?=some fn){c:aJ}{y:ai}(Ce:∀τ d,(results fn a.tmps).run P {v with tape:=τ,drawn:=d}=.ok y {v with tape:=τ,drawn:=d})
  (h:∀w,qQ X Y w v->r_ P D Stop (G (c.finish y) cs) w):uA P X Y D Stop f (c::cs) [.code .ret] a v:=by
 obtain⟨tmps,d0⟩:=a;subst ha;intro w hs;refine .next rfl λd=>⟨G {(base f).at ⟨tmps,[]⟩ [.code .ret]with mode:=.returning} (c::cs),w.at d,#[],rfl,hD.nil (az _),?_⟩
 refine .next rfl λd'=>?_
 have xU:xZ X Y (w.at d') {v with tape:=λp=>w.tape (d'+p),drawn:=0}:=hs.re d' 0 _ λi q=>ax
 have hr:=Ce (λp=>w.tape (d'+p)) 0;obtain⟨w',h1,h2,h3,h4⟩:=vX (results fn tmps) (w.at d') _ #[] y _ ((results fn tmps).events P {v with tape:=λp=>w.tape (d'+p),drawn:=0} #[]) (wV fn tmps) xU avx;refine⟨G (c.finish y) cs,w',seen P f ((results fn tmps).events P {v with tape:=λp=>w.tape (d'+p),drawn:=0} #[]),?_,hD _ w' _ (fQ (xU.size.trans h2.size.symm)) (λe he=>(h4 e (mem_seen he)).resolve_left ax),h w' ⟨_,_,h2⟩⟩
 have eA:∀c2 r2 u,stepG P true (G {(base f).at ⟨tmps,[]⟩ [.code .ret]with mode:=.returning} (c2::r2)) u=
   GStep.after (seen P f ((results fn tmps).runT P u #[]).2) (match((results fn tmps).runT P u #[]).1 with
    | .ok v w=>doReturn P true {(base f).at ⟨tmps,[]⟩ [.code .ret]with mode:=.returning} (c2::r2) none v w
    | .halt (.stuck s) w=>.ended (.stuck s (Frame.pos P {(base f).at ⟨tmps,[]⟩ [.code .ret]with mode:=.returning})) w
    | .halt _ w=>.ended (.stuck "return: the result variables cannot be read" (Frame.pos P {(base f).at ⟨tmps,[]⟩ [.code .ret]with mode:=.returning})) w):=λc2 r2 u=>by
  simp only[G,stepG,unwind,base,Frame.at,hf];rfl
 exact azP
end
end Go.Lf
namespace Go.Proofs.Y
open Go.Lf
def aaU:List aU:=[47,77,21,15,22,23,24,25,41,42,74,75,16,26,27,43,44,28,45,46,54,76,30,10,6,14,7,9,108,52,92,109,127,126,91,118,128,93,119]
def alY(f:aU):Bool:=aaU.contains f
noncomputable def ae6(f:aU):Bool:=match Tryz.prog.funcs[f]? with
 |none=>false
 |some fn=>!(fn.name== "runtime.NumGoroutine")&&match fn.body with
  |none=>false
  |some c=>Hz Tryz.prog alY c
theorem aqU:aaU.all ae6=true:=aj
theorem qV:xY Tryz.prog alY:=by
 intro f hf;have h:=jF.1 aqU f (by simpa[alY]using hf);unfold ae6 at h;split at h
 .cases h
 .rename_i fn Oi;rw[gW]at h;obtain⟨h1,h2⟩:=h;split at h2
  .cases h2
  .rename_i c hc;exact .inl ⟨fn,c,[],Oi,iK,hc,h2,λx hx=>by simp at hx⟩
end Go.Proofs.Y
namespace Go.Proofs.Y
def tx(a:Nat):Nat:=if 128<=a then(2*a%256)^^^29 else 2*a
def FH:Nat->Nat->Nat->Nat->Nat
 |0,p,_,_=>p
 |n+1,p,a,b=>FH n (if b%2=1 then p^^^a else p) (tx a) (b/2)
def mul(a b:Nat):Nat:=FH 8 0 a b
theorem aik:∀a:Fin 256,tx a.val=(2*a.val)^^^(285*(a.val/128)):=iM
theorem ail:∀a:Fin 256,tx a.val<256:=iM
theorem ML{a:Nat}(h:a<256):tx a<256:=ail ⟨a,h⟩
theorem Dx{a b:Nat}(ha:a<256)(hb:b<256):a^^^b<256:=iQ (n:=8) ha hb
theorem aoy{a b:Nat}(ha:a<256)(hb:b<256):tx (a^^^b)=tx a^^^tx b:=by
 have h1:=aik ⟨a^^^b,Dx ha hb⟩;have h2:=aik ⟨a,ha⟩;have h3:=aik ⟨b,hb⟩;simp only at h1 h2 h3;rw[h1,h2,h3]
 have e1:2*(a^^^b)=(2*a)^^^(2*b):=by have:=Nat.shiftLeft_xor_distrib (a:=a) (b:=b) (i:=1);simpa[Nat.shiftLeft_eq,gu]using this
 have e2:(a^^^b)/128=(a/128)^^^(b/128):=by have:=oM (a:=a) (b:=b) (i:=7);simpa[oO]using this
 have e3:∀p q:Nat,p<2->q<2->285*(p^^^q)=(285*p)^^^(285*q):=by intro p q hp hq;have:p=0\/p=1:=ag;have:q=0\/q=1:=ag;rcases‹p=0\/p=1› with rfl|rfl<;>rcases‹q=0\/q=1› with rfl|rfl<;>rfl
 rw[e1,e2,e3 _ _ ag ag];rw[dG,dG]
 congr 1
 rw[<-dG,jv (2*b),dG]
theorem aqV(a b c d:Nat):(a^^^b)^^^(c^^^d)=(a^^^c)^^^(b^^^d):=by rw[dG,dG];congr 1;rw[<-dG,jv b,dG]
theorem ae7:∀(n p a b:Nat),p<256->a<256->FH n p a b<256
 |0,_,_,_,hp,_=>hp
 |n+1,p,a,b,hp,ha=>by
  rw[FH];refine ae7 n _ _ _ ?_ (ML ha);split
  .exact Dx hp ha
  .exact hp
theorem mul_lt{a b:Nat}(ha:a<256):mul a b<256:=ae7 8 0 a b ag ha
theorem F8:∀(n p q a c b:Nat),a<256->c<256->FH n (p^^^q) (a^^^c) b=FH n p a b^^^FH n q c b
 |0,_,_,_,_,_,_,_=>rfl
 |n+1,p,q,a,c,b,ha,hc=>by
  rw[FH,FH,FH,aoy ha hc];split
  .rw[aqV,F8 n _ _ _ _ _ (ML ha) (ML hc)]
  .rw[F8 n _ _ _ _ _ (ML ha) (ML hc)]
theorem xQ{a c:Nat}(b:Nat)(ha:a<256)(hc:c<256):mul (a^^^c) b=mul a b^^^mul c b:=by have:=F8 8 0 0 a c b ha hc;simpa[mul]using this
theorem aim(b d:Nat):(b^^^d)%2=if b%2=d%2 then 0 else 1:=by exact azX
theorem ain(b d:Nat):(b^^^d)/2=(b/2)^^^(d/2):=by exact ay9
theorem Jv:∀(n p q a b d:Nat),a<256->FH n (p^^^q) a (b^^^d)=FH n p a b^^^FH n q a d
 |0,_,_,_,_,_,_=>rfl
 |n+1,p,q,a,b,d,ha=>by
  rw[FH,FH,FH,ain,aim];rw[<-Jv n _ _ _ _ _ (ML ha)]
  congr 1
  have h1:b%2=0\/b%2=1:=ag;have h2:d%2=0\/d%2=1:=ag;rcases h1 with h1|h1<;>rcases h2 with h2|h2<;>simp[h1,h2]
  .rw[dG]
  .rw[dG,dG,jv a]
  .rw[aqV,jc,nI]
theorem wW{a:Nat}(b d:Nat)(ha:a<256):mul a (b^^^d)=mul a b^^^mul a d:=by have:=Jv 8 0 0 a b d ha;simpa[mul]using this
def Lin(f:Nat->Nat):Prop:=∀a b,a<256->b<256->f (a^^^b)=f a^^^f b
theorem aqW:∀a:Fin 256,a.val=(((((((a.val/128%2*128)^^^(a.val/64%2*64))^^^(a.val/32%2*32))^^^(a.val/16%2*16))^^^(a.val/8%2*8))^^^(a.val/4%2*4))^^^(a.val/2%2*2))^^^(a.val%2*1):=by decide+kernel
theorem Lin.zero{f:Nat->Nat}(h:Lin f):f 0=0:=by have:=h 0 0 ag ag;rw[jc,jc]at this;exact this
theorem FN{f g:Nat->Nat}(hf:Lin f)(hg:Lin g)(x m:Nat)(hx:x<2)(h:f m=g m):f (x*m)=g (x*m):=by
 have:x=0\/x=1:=ag;rcases this with rfl|rfl
 .rw[gX,hf.zero,hg.zero]
 .rw[nJ,h]
theorem Lin.ext{f g:Nat->Nat}(hf:Lin f)(hg:Lin g)(h:∀i:Fin 8,f (2^i.val)=g (2^i.val))(a:Nat)(ha:a<256):f a=g a:=by
 have e:=aqW ⟨a,ha⟩;simp only at e;have x7:a/128%2*128<256:=ag;have x6:a/64%2*64<256:=ag;have x5:a/32%2*32<256:=ag;have x4:a/16%2*16<256:=ag;have x3:a/8%2*8<256:=ag;have x2:a/4%2*4<256:=ag;have x1:a/2%2*2<256:=ag;have x0:a%2*1<256:=ag;have y6:=Dx x7 x6;have y5:=Dx y6 x5;have y4:=Dx y5 x4;have y3:=Dx y4 x3;have y2:=Dx y3 x2;have y1:=Dx y2 x1
 rw[e,hf _ _ y1 x0,hg _ _ y1 x0,hf _ _ y2 x1,hg _ _ y2 x1,hf _ _ y3 x2,hg _ _ y3 x2,hf _ _ y4 x3,hg _ _ y4 x3,
  hf _ _ y5 x4,hg _ _ y5 x4,hf _ _ y6 x5,hg _ _ y6 x5,hf _ _ x7 x6,hg _ _ x7 x6,
  FN hf hg _ 128 ag (h 7),FN hf hg _ 64 ag (h 6),FN hf hg _ 32 ag (h 5),FN hf hg _ 16 ag (h 4),
  FN hf hg _ 8 ag (h 3),FN hf hg _ 4 ag (h 2),FN hf hg _ 2 ag (h 1),FN hf hg _ 1 ag (h 0)]
theorem AY(b:Nat):Lin (λa=>mul a b):=λ_ _ ha hc=>xQ b ha hc
theorem MM{a:Nat}(ha:a<256):Lin (λb=>mul a b):=λ_ _ _ _=>wW _ _ ha
theorem mul_one{a:Nat}(ha:a<256):mul a 1=a:=
 Lin.ext (f:=λa=>mul a 1) (g:=λa=>a) (AY 1) (λ_ _ _ _=>rfl) iM a ha
theorem mul_zero(a:Nat):mul a 0=0:=by simp[mul,FH]
theorem zero_mul{a:Nat}:mul 0 a=0:=(AY a).zero
theorem Jw(i:Fin 8):2^i.val<256:=by revert i;decide
theorem aoz:∀i j:Fin 8,mul (2^i.val) (2^j.val)=mul (2^j.val) (2^i.val):=iM
theorem mul_comm{a b:Nat}(ha:a<256)(hb:b<256):mul a b=mul b a:=by refine Lin.ext (f:=λa=>mul a b) (g:=λa=>mul b a) (AY b) (MM hb) (λi=>?_) a ha;exact Lin.ext (f:=λb=>mul (2^i.val) b) (g:=λb=>mul b (2^i.val)) (MM (Jw i)) (AY _) (λj=>aoz i j) b hb
theorem aio:∀i j k:Fin 8,mul (2^i.val) (mul (2^j.val) (2^k.val))=mul (mul (2^i.val) (2^j.val)) (2^k.val):=iM
theorem mul_assoc{a b c:Nat}(ha:a<256)(hb:b<256)(hc:c<256):mul a (mul b c)=mul (mul a b) c:=by
 refine Lin.ext (f:=λa=>mul a (mul b c)) (g:=λa=>mul (mul a b) c) (AY _) ?_ (λi=>?_) a ha
 .intro x y hx hy;show mul (mul (x^^^y) b) c=_;rw[xQ b hx hy,xQ c (mul_lt hx) (mul_lt hy)]
 refine Lin.ext (f:=λb=>mul (2^i.val) (mul b c)) (g:=λb=>mul (mul (2^i.val) b) c) ?_ ?_ (λj=>?_) b hb
 .intro x y hx hy;show mul _ (mul (x^^^y) c)=_;rw[xQ c hx hy,wW _ _ (Jw i)]
 .intro x y hx hy;show mul (mul _ (x^^^y)) c=_;rw[wW _ _ (Jw i),xQ c (mul_lt (Jw i)) (mul_lt (Jw i))]
 refine Lin.ext (f:=λc=>mul (2^i.val) (mul (2^j.val) c)) (g:=λc=>mul (mul (2^i.val) (2^j.val)) c) ?_ ?_ (λk=>aio i j k) c hc
 .intro x y hx hy;show mul _ (mul _ (x^^^y))=_;rw[wW _ _ (Jw j),wW _ _ (Jw i)]
 .intro x y hx hy;show mul (mul _ _) (x^^^y)=_;rw[wW _ _ (mul_lt (Jw i))]
def ado:Nat->Nat->Nat->Nat
 |0,_,v=>v
 |n+1,p,v=>ado n (mul p p) (mul v (mul p p))
def inv(a:Nat):Nat:=ado 7 a 1
theorem agh:∀a:Fin 256,inv a.val<256:=iM
theorem aip{a:Nat}(ha:a<256):inv a<256:=agh ⟨a,ha⟩
theorem adp:∀a:Fin 256,a.val=0\/mul a.val (inv a.val)=1:=iM
theorem alZ{a:Nat}(ha:a<256)(h0:a≠0):mul a (inv a)=1:=(adp ⟨a,ha⟩).resolve_left h0
end Go.Proofs.Y
namespace Go.Gh
open Go.Conc
section
variable {P:aN}{main:Bool}{R:ah->ah->Prop}{D:ah->ah->aH->Prop}{fn:aU}{ops:Array Oper}{Q:Exit->Act->ah->Prop}{S:ah->Prop}{nf lst:Nat}
def OpX(P:aN)(main:Bool)(R:ah->ah->Prop)(D:ah->ah->aH->Prop)(fn:aU)(ops:Array Oper)(nf i:Nat)(K:Act->ah->Prop)(a:Act)(w:ah):Prop:=
 ∃o,ops[i]?=some o/\
  ((Region.wanted o (yielded ops a.tmps)=true/\∀w₁,R w w₁->uponK o a (λa' w'=>D w₁ w' (listed P fn a o w₁)/\K a' w') ((execOp a.eval o).run P w₁))\/
   (Region.wanted o (yielded ops a.tmps)=true/\∃f args ats Post,o.op=.call {callee:=.value (.func f),args,argTypes:=ats}/\CallsC P main R D f (args.map a.eval) nf w Post/\∀v w',Post v w'->K (a.put o.dst v) w')\/
   (Region.wanted o (yielded ops a.tmps)=false/\K (a.put o.dst undef) w))
theorem OpX.mono{i:Nat}{K K':Act->ah->Prop}{a:Act}{w:ah}(hK:∀a w,K a w->K' a w)(h:OpX P main R D fn ops nf i K a w):OpX P main R D fn ops nf i K' a w:=by
 obtain⟨o,ho,h⟩:=h;refine⟨o,ho,?_⟩;rcases h with⟨hw,h⟩|⟨hw,f,args,ats,Post,h1,h2,h3⟩|⟨hw,h⟩
 .exact .inl ⟨hw,λw₁ r=>uponK_mono (λ_ _ x=>⟨x.1,hK _ _ x.2⟩) (h w₁ r)⟩
 .exact .inr (.inl ⟨hw,f,args,ats,Post,h1,h2,λv w' p=>hK _ _ (h3 v w' p)⟩)
 .exact .inr (.inr ⟨hw,hK _ _ h⟩)
def IP(P:aN)(main:Bool)(R:ah->ah->Prop)(D:ah->ah->aH->Prop)(fn:aU)(ops:Array Oper)(nf:Nat)(Q:Exit->Act->ah->Prop)(S:ah->Prop)(lst:Nat):Nat->Array Bool->Act->ah->Prop
 |0,l,a,w=>Region.ready .any ops l=[]/\Q .normal a w
 |k+1,l,a,w=>(Region.ready .any ops l=[]->Q .normal a w)/\
  ∀i∈Region.ready .any ops l,OpX P main R D fn ops nf i (λa' w'=>(i≠lst->S w')/\IP P main R D fn ops nf Q S lst k (l.setIfInBounds i true) a' w') a w
theorem aaV(T:Terms R D){i:Nat}{rest:aA}{m:Nat}{a:Act}{w:ah}(h:OpX P main R D fn ops nf i (λa' w'=>OpsC P main R D fn ops rest m Q a' w') a w):OpsC P main R D fn ops (i::rest) (m+nf+3) Q a w:=by
 obtain⟨o,ho,h⟩:=h;rcases h with⟨hw,h⟩|⟨hw,f,args,ats,Post,h1,h2,h3⟩|⟨hw,h⟩
 .exact opsC_more (opsC_cons ho hw h) ag
 .exact opsC_call T ho hw h1 h2 h3
 .exact opsC_more (opsC_unwanted T ho hw h) ag
theorem UH(T:Terms R D):∀(k t:Nat)(l:Array Bool)(a:Act)(w:ah),IP P main R D fn ops nf Q S lst k l a w->OpsC P main R D fn ops (Region.linearise.go .any ops k t l []) (k*(nf+3)+1) Q a w
 |0,t,l,a,w,h=>by simpa[Region.linearise.go]using bV T h.2
 |k+1,t,l,a,w,h=>by
  obtain⟨h0,h1⟩:=h;have e:(k+1)*(nf+3)+1=(k*(nf+3)+1)+nf+3:=by rw[gQ];omega
  simp only[Region.linearise.go]
  change OpsC P main R D fn ops (match(Region.ready .any ops l)[t%(Region.ready .any ops l).length]? with
   |some i=>Region.linearise.go .any ops k (t/(Region.ready .any ops l).length) (l.setIfInBounds i true) [i]
   |none=>[].reverse) ((k+1)*(nf+3)+1) Q a w
  cases hi:(Region.ready .any ops l)[t%(Region.ready .any ops l).length]? with
  |none=>
   have anL:Region.ready .any ops l=[]:=by
    cases hr:Region.ready .any ops l with
    |nil=>rfl
    |cons x xs=>
     rw[hr,aw9]at hi;have:=iR t (show 0<(x::xs).length by simp);omega
   exact opsC_more (by simpa using bV T (h0 anL)) ag
  |some i=>
   simp only[];rw[linearise_go_acc,aw7,aw6,e];exact aaV T (OpX.mono (λa' w' x=>UH T k _ _ a' w' x.2) (h1 i (jA hi)))
theorem OpX.swap{j:Nat}{oi oj:Oper}{v:ai}(hj:ops[j]?=some oj)(hap:oi.apart ops oj=true)(hsi:∀cs b,oi.op≠.select cs b)(hsj:∀cs b,oj.op≠.select cs b){K:Act->ah->Prop}{a:Act}{w:ah}
  (hy:YieldsIfC P D fn ops S oi v a) (h:OpX P main R D fn ops nf j K (a.put oi.dst v) w):OpX P main R D fn ops nf j (λa' w'=>YieldsIfC P D fn ops S oi v a'/\K (a'.put oi.dst v) w') a w:=by
 obtain⟨h1,h2,h3⟩:=Oper.apart_spec hap;have Bz:∀u,YieldsIfC P D fn ops S oi v (a.put oj.dst u):=λu=>hy.of_same (execOp_put oi hsi a oj.dst u h3) (wanted_put oi a oj.dst u h3)
 obtain⟨o,ho,h⟩:=h;obtain rfl:oj=o:=by rw[hj]at ho;exact gp ho
 refine⟨oj,hj,?_⟩;rw[wanted_put oj a oi.dst v h1]at h;have hex:execOp (a.put oi.dst v).eval oj=execOp a.eval oj:=execOp_put oj hsj a oi.dst v h1;rcases h with⟨hw,h⟩|⟨hw,f,args,ats,Post,e1,e2,e3⟩|⟨hw,h⟩
 .refine .inl ⟨hw,λw₁ r=>?_⟩;have h:=h w₁ r;unfold listed at h⊢;rw[hex]at h;generalize(execOp a.eval oj).run P w₁=res at h⊢;cases res with
  |halt x w'=>simp only[uponK]at h
  |ok x w'=>
   cases x<;>simp only[uponK]at h⊢
   .rename_i u;exact⟨h.1,Bz u,by rw[<-Act.put_comm a v u h2];exact h.2⟩
   .exact⟨h.1,Bz _,by rw[<-Act.put_comm a v undef h2];exact h.2⟩
 .refine .inr (.inl ⟨hw,f,args,ats,Post,e1,?_,λu w' p=>⟨Bz u,by rw[<-Act.put_comm a v u h2];exact e3 u w' p⟩⟩)
  have ea:args.map (a.put oi.dst v).eval=args.map a.eval:=by
   refine Array.map_congr_left λx hx=>Act.eval_put λd hd hxd=>h1 d hd ?_
   subst hxd;refine avV _ (List.mem_filterMap.2 ⟨.tmp d,?_,rfl⟩);rw[e1];simp[Op.operands,Call.operands,hx]
  rw[ea]at e2;exact e2
 .exact .inr (.inr ⟨hw,Bz _,by rw[<-Act.put_comm a v undef h2];exact h⟩)
theorem YieldsIfC.opX(Oj:∀x y,S x->R x y->S y){i:Nat}{o:Oper}{v:ai}{a:Act}(hi:ops[i]?=some o)(hy:YieldsIfC P D fn ops S o v a){K:Act->ah->Prop}(hK:∀a x y,K a x->R x y->K a y){w:ah}(hS:S w)(h:K (a.put o.dst v) w):
  OpX P main R D fn ops nf i K a w:=by
 refine⟨o,hi,?_⟩;rcases hy with⟨hw,hv⟩|⟨hw,rfl⟩
 .refine .inl ⟨hw,λw₁ r=>?_⟩;rw[(hv w₁ (Oj _ _ hS r)).1];exact⟨(hv w₁ (Oj _ _ hS r)).2,hK _ _ _ h r⟩
 .exact .inr (.inr ⟨hw,h⟩)
theorem CallsC.rely(T:Terms R D){f:aU}{args:aB}{m:Nat}{w w₁:ah}{Post:ai->ah->Prop}(h:CallsC P main R D f args m w Post)(r:R w w₁):CallsC P main R D f args m w₁ Post:=by obtain⟨g,c,h1,h2,h3,h4⟩:=h;exact⟨g,c,h1,h2,h3,iY T h4 r⟩
theorem IP.rely(T:Terms R D)(Oj:∀x y,S x->R x y->S y)(Ti:∀a x y,Q .normal a x->R x y->Q .normal a y):∀(k:Nat)(l:Array Bool)(a:Act)(w w₁:ah),IP P main R D fn ops nf Q S lst k l a w->R w w₁->IP P main R D fn ops nf Q S lst k l a w₁
 |0,_,_,_,_,h,r=>⟨h.1,Ti _ _ _ h.2 r⟩
 |k+1,l,a,w,w₁,h,r=>⟨λe=>Ti _ _ _ (h.1 e) r,λi hi=>by
  obtain⟨o,ho,h⟩:=h.2 i hi;refine⟨o,ho,?_⟩;rcases h with⟨hw,h⟩|⟨hw,f,args,ats,Post,e1,e2,e3⟩|⟨hw,h⟩
  .exact .inl ⟨hw,λw₂ r₂=>h w₂ (T.trans _ _ _ r r₂)⟩
  .exact .inr (.inl ⟨hw,f,args,ats,Post,e1,CallsC.rely T e2 r,e3⟩)
  .exact .inr (.inr ⟨hw,λhne=>Oj _ _ (h.1 hne) r,IP.rely T Oj Ti k _ _ _ _ h.2 r⟩)⟩
def DC(ops:Array Oper)(l:Array Bool):Prop:=∀j o,ops[j]?=some o->l.getD j false=true->∀e∈o.after,Region.binds .any e=true->l.getD e.on false=true
theorem DC.set{l:Array Bool}(h:DC ops l){j:Nat}(hj:j∈Region.ready .any ops l):DC ops (l.setIfInBounds j true):=by
 intro m o ho hm e he hb;by_cases hjm:j=m
 .subst hjm;obtain⟨_,o',ho',w_⟩:=mem_ready.1 hj;obtain rfl:o=o':=by rw[ho]at ho';exact gp ho'
  exact getD_set_true (w_ e he hb)
 .rw[getD_set_ne false hjm]at hm;exact getD_set_true (h m o ho hm e he hb)
def waitsFor(ops:Array Oper):Nat->Nat->Nat->Bool
 |0,_,_=>false
 |n+1,j,i=>match ops[j]? with
  |none=>false
  |some o=>o.after.any λe=>Region.binds .any e&&(e.on==i||waitsFor ops n e.on i)
theorem OO{l:Array Bool}(h:DC ops l){i:Nat}:∀(n j:Nat)(o:Oper),ops[j]?=some o->(∀e∈o.after,Region.binds .any e=true->l.getD e.on false=true)->waitsFor ops n j i=true->l.getD i false=true
 |0,_,_,_,_,hw=>by simp[waitsFor]at hw
 |n+1,j,o,ho,hd,hw=>by
  simp only[waitsFor,ho,Array.any_eq_true]at hw;obtain⟨x,hx,hw⟩:=hw;simp only[gW,l_,beq_iff_eq]at hw;have hon:=hd _ (Array.getElem_mem hx) hw.1;rcases hw.2 with e|e
  .rw[<-e];exact hon
  .cases ho':ops[o.after[x].on]? with
   |none=>
    cases n with
    |zero=>simp[waitsFor]at e
    |succ n=>simp[waitsFor,ho']at e
   |some o'=>exact OO h n _ o' ho' (h _ o' ho' hon) e
theorem adq(T:Terms R D)(Oj:∀x y,S x->R x y->S y)(Ti:∀a x y,Q .normal a x->R x y->Q .normal a y){i:Nat}{oi:Oper}{v:ai}(hi:ops[i]?=some oi)(asr:∀(j:Nat)(o:Oper) cs b,ops[j]?=some o->o.op≠.select cs b){nw:Nat}(hwt:waitsFor ops nw lst i=true):
  ∀(k:Nat)(l:Array Bool)(a:Act)(w:ah),DC ops l->(∀j oj,ops[j]?=some oj->j≠i->l.getD j true=false->(∀e∈oj.after,Region.binds .any e=true->e.on≠i)->oi.apart ops oj=true)->
   i∈Region.ready .any ops l->YieldsIfC P D fn ops S oi v a->S w->IP P main R D fn ops nf Q S lst k (l.setIfInBounds i true) (a.put oi.dst v) w->IP P main R D fn ops nf Q S lst (k+1) l a w:=by
 have hK:∀j k l,∀a x y,((j≠lst->S x)/\IP P main R D fn ops nf Q S lst k l a x)->R x y->((j≠lst->S y)/\IP P main R D fn ops nf Q S lst k l a y):=
  λj k l a x y h r=>⟨λhne=>Oj _ _ (h.1 hne) r,IP.rely T Oj Ti k l a x y h.2 r⟩
 intro k
 induction k with
 |zero=>
  intro l a w _ _ hr hy hS H;refine⟨λh=>(by rw[h]at hr;cases hr),λj hj=>?_⟩;by_cases hji:j=i
  .exact azs
  .have:=ready_mono hj hji;rw[H.1]at this;cases this
 |succ k ih=>
  intro l a w hdc aof hr hy hS H;refine⟨λh=>(by rw[h]at hr;cases hr),λj hj=>?_⟩;by_cases hji:j=i
  .exact azs
  .have h1:=H.2 j (ready_mono hj hji);obtain⟨ass,oj,hoj,w_⟩:=mem_ready.1 hj;have hir:i∈Region.ready .any ops (l.setIfInBounds j true):=ready_mono hr (dU hji)
   have aua:∀e∈oj.after,Region.binds .any e=true->e.on≠i:=λe he hb heq=>by
    have h1:=w_ e he hb;have h0:=(mem_ready.1 hr).1;rw[heq]at h1;rcases bJ i l.size with h'|h'
    .simp[h']at h0 h1;rw[h0]at h1;cases h1
    .simp[kW h']at h1
   have h2:=OpX.swap hoj (aof j oj hoj hji ass aua) (λcs b=>asr i oi cs b hi) (λcs b=>asr j oj cs b hoj) hy h1
   have aqp:∀m om,ops[m]?=some om->m≠i->(l.setIfInBounds j true).getD m true=false->(∀e∈om.after,Region.binds .any e=true->e.on≠i)->oi.apart ops om=true:=λm om hm hmi hun Rt=>by
    refine aof m om hm hmi ?_ Rt;by_cases hjm:j=m
    .subst hjm;exact ass
    .rw[getD_set_ne true hjm]at hun;exact hun
   have Oq:j≠lst:=by
    rintro rfl;have h1:=OO hdc nw j oj hoj w_ hwt;have h0:=(mem_ready.1 hr).1;rcases bJ i l.size with h'|h'
    .simp[h']at h0 h1;rw[h0]at h1;cases h1
    .simp[kW h']at h1
   refine OpX.mono (λa' w' h3=>⟨λ_=>h3.2.1 Oq,ih (l.setIfInBounds j true) a' w' (hdc.set hj) aqp hir h3.1 (h3.2.1 Oq) ?_⟩) h2;rw[Array.setIfInBounds_comm _ _ hji];exact h3.2.2
def dcB(ops:Array Oper)(l:Array Bool):Bool:=(List.range ops.size).all λj=>!l.getD j false||match ops[j]? with
 |some o=>o.after.all λe=>!Region.binds .any e||l.getD e.on false
 |none=>true
theorem aiq{l:Array Bool}(h:dcB ops l=true):DC ops l:=by intro j o ho hj e he hb;simp only[dcB,jF,fH]at h;have h1:=h j (dh.1 ho).1;simp only[hj,ho,jm,kU]at h1;have h2:=mr.1 h1 e he;simpa[hb]using h2
theorem sS(T:Terms R D)(Oj:∀x y,S x->R x y->S y)(Ti:∀a x y,Q .normal a x->R x y->Q .normal a y){i:Nat}{oi:Oper}{v:ai}{k:Nat}{l:Array Bool}{a:Act}{w:ah}(hi:ops[i]?=some oi)
  (hs:Region.noSelect ops=true) (hf:Region.free .any ops l i=true) (hr:(Region.ready .any ops l).contains i=true) (hwt:waitsFor ops ops.size lst i=true) (hdc:dcB ops l=true)
  (hy:YieldsIfC P D fn ops S oi v a) (hS:S w) (h:IP P main R D fn ops nf Q S lst k (l.setIfInBounds i true) (a.put oi.dst v) w):IP P main R D fn ops nf Q S lst (k+1) l a w:=
 adq T Oj Ti hi (Region.noSelect_spec hs) hwt k l a w (aiq hdc) (Region.free_spec hi hf) (by simpa using hr) hy hS h
theorem GL{i:Nat}{k:Nat}{l:Array Bool}{a:Act}{w:ah}(hr:Region.ready .any ops l=[i])(h:OpX P main R D fn ops nf i (λa' w'=>(i≠lst->S w')/\IP P main R D fn ops nf Q S lst k (l.setIfInBounds i true) a' w') a w):
  IP P main R D fn ops nf Q S lst (k+1) l a w:=
 ⟨λh0=>absurd (hr.symm.trans h0) ax,λj hj=>by rw[hr]at hj;obtain rfl:j=i:=jH;exact h⟩
theorem Le{l:Array Bool}{a:Act}{w:ah}(hr:Region.ready .any ops l=[])(h:Q .normal a w):∀k,IP P main R D fn ops nf Q S lst k l a w
 |0=>⟨hr,h⟩
 |_+1=>⟨λ_=>h,λi hi=>by rw[hr]at hi;cases hi⟩
theorem AX(T:Terms R D)(hd:LetsDraw D){id:Nat}{a:Act}{w:ah}(hm:P.follows .mixedOrders=true)
  (h:∀w₁,R w w₁->IP P main R D fn ops nf Q S lst ops.size (Array.replicate ops.size false) a {w₁ with drawn:=w₁.drawn+1}):(Code.region id ops true).wpC P main R D fn (ops.size*(nf+3)+1+1) Q a w:=
 wpC_region_draw hd λw₁ h₁ t=>by simp only[Region.schedule,hm,av5,aX];exact UH T ops.size t _ a _ (h w₁ h₁)
end
end Go.Gh
namespace Go.Gh
open Go.Conc Go.ConcN Go.RowKit
open Go.ConcR (Payload)
section
variable {P:aN}{main:Bool}{R:ah->ah->Prop}{D:ah->ah->aH->Prop}
theorem Zo{b:aJ}{a:Act}{cs:aP}{w:ah}{fn:Func}{todo:b_}{c:aJ}{v:ai}(hn:b.kind=.normal)(hd:a.defers=[])(hf:P.funcs[b.fn]?=some fn)(hr:(results fn a.tmps).run P w=.ok v w):
  stepG P main (G {b.at a todo with mode:=.returning} (c::cs)) w=.go (G (c.finish v) cs) w (seen P b.fn ((results fn a.tmps).events P w #[])):=by
 simp[G,stepG,unwind,doReturn,Frame.at,hn,hd,hf,hr,GStep.after]
def adr(P:aN)(main:Bool)(R:ah->ah->Prop)(D:ah->ah->aH->Prop)(f:aU)(args:aB)(n:Nat)(w:ah)(Post:ai->ah->Prop):Prop:=
 ∃fn c,P.funcs[f]?=some fn/\(fn.name== "runtime.NumGoroutine")=false/\fn.body=some c/\
  ∀(b:aJ)(a:Act)(k:b_)(cs:aP)(ops:Array Oper)(i:Nat)(rest:aA)(Stop:aG->ah->Prop)(m:Nat),
   (∀v w',Post v w'->Goes P main R D Stop m (G (b.at (a.put ((ops[i]?).bind (·.dst)) v) (.inRegion ops rest::k)) cs) w')->
   Goes P main R D Stop (m+n) (G ((base f).at {tmps:=args++Array.replicate (fn.ntmps-args.size) undef,defers:=[]} [.code c]) (b.at a (.inRegion ops (i::rest)::k)::cs)) w
theorem WZ(T:Terms R D){f:aU}{fn:Func}{c:Code}{args:aB}{n:Nat}{w:ah}{Post:ai->ah->Prop}{Q:Act->ah->Prop}(hf:P.funcs[f]?=some fn)(P9:(fn.name== "runtime.NumGoroutine")=false)(hb:fn.body=some c)
  (hq:∀a' w',Q a' w'->a'.defers=[]/\∀w₁,R w' w₁->∃v,(results fn a'.tmps).run P w₁=.ok v w₁/\D w₁ w₁ (seen P f ((results fn a'.tmps).events P w₁ #[]))/\Post v w₁)
  (h:c.wpC P main R D f n (λe a' w'=>match e with| .ret| .normal=>Q a' w'|_=>False) {tmps:=args++Array.replicate (fn.ntmps-args.size) undef,defers:=[]} w):adr P main R D f args (n+2) w Post:=by
 refine⟨fn,c,hf,P9,hb,λb a k cs ops i rest Stop m hK=>?_⟩
 have ali:∀(a':Act)(w':ah)(todo:b_),Q a' w'->Goes P main R D Stop (m+1) (G {(base f).at a' todo with mode:=.returning} (b.at a (.inRegion ops (i::rest)::k)::cs)) w':=by
  intro a' w' todo hQ;obtain⟨hd,hr⟩:=hq a' w' hQ;refine aO rfl λw₁ h₁=>?_
  obtain⟨v,h1,h2,h3⟩:=hr w₁ h₁;rw[Zo (b:=base f) rfl hd hf h1,Frame.finish_at];exact⟨h2,hK v w₁ h3⟩
 have:=h (base f) [] (b.at a (.inRegion ops (i::rest)::k)::cs) Stop (m+2) rfl (by simp[base]) λe a' w' q=>by
  cases e with
  |normal=>exact aO rfl λw₁ h₁=>by rw[stepG_end];exact⟨T.idle _,(ali a' w' [] q).rely T.trans h₁⟩
  |ret=>exact λtodo=>(ali a' w' todo q).more
  |exit id=>exact q.elim
  |goto l=>exact q.elim
  |panic ch=>exact q.elim
  |outgrown=>exact q.elim
 exact this.mono ag
theorem adn(T:Terms R D){fn:aU}{Q:Exit->Act->ah->Prop}{a:Act}{w:ah}{ops:Array Oper}{i:Nat}{rest:aA}{o:Oper}{f:aU}{args:Array Operand}{ats:Array aF}{nf n:Nat}{Post:ai->ah->Prop}
  (ho:ops[i]?=some o) (hw:Region.wanted o (yielded ops a.tmps)=true) (uT:o.op=.call {callee:=.value (.func f),args,argTypes:=ats})
  (ast:adr P main R D f (args.map a.eval) nf w Post) (qJ:∀v w',Post v w'->OpsC P main R D fn ops rest n Q (a.put o.dst v) w'):OpsC P main R D fn ops (i::rest) (n+nf+1) Q a w:=by
 intro b k cs Stop m hb hk hc;obtain⟨g,c,hf,P9,asu,hG⟩:=ast;have:=hG b a k cs ops i rest Stop (m+n) (λv w' p=>by rw[ho];exact qJ v w' p b k cs Stop m hb hk hc);have e:m+(n+nf+1)=(m+n+nf)+1:=ag;rw[e];exact aO rfl λw₁ h₁=>goes_call ho hw hk uT hf P9 asu ⟨T.idle _,this.rely T.trans h₁⟩
end
section
variable [Payload](Wg C n B:Nat)(Cl S:Nat->Prop)
structure Ex(w w':ah):Prop where
 size:w.heap.size<=w'.heap.size
 tape:w'.tape=w.tape
 os:w'.os=w.os
 tag:IV w<=w.heap.size->IV w'<=w'.heap.size
 own:∀b,qZ w b->qZ w' b
 mine:∀b,qZ w b->¬S b->w'.heap[b]?=w.heap[b]?
 low:∀b,b<B->b≠Wg->b≠C->w'.heap[b]?=w.heap[b]?
 cell:∀i,Cl i->w'.cell? ⟨C,i,none⟩=w.cell? ⟨C,i,none⟩
 pay:PayAt C n w->PayAt C n w'
end
section
variable [Payload]{Wg C n B:Nat}{Cl S:Nat->Prop}{w w' w₁:ah}
theorem Ex.refl(w:ah):Ex Wg C n B Cl S w w:=⟨az _,rfl,rfl,id,λ_=>id,λ_ _ _=>rfl,λ_ _ _ _=>rfl,λ_ _=>rfl,id⟩
theorem Ex.trans(h:Ex Wg C n B Cl S w w')(h':Ex Wg C n B Cl S w' w₁):Ex Wg C n B Cl S w w₁:=
 ⟨bu h.size h'.size,h'.tape.trans h.tape,h'.os.trans h.os,h'.tag∘h.tag,λb x=>h'.own b (h.own b x),λb x y=>(h'.mine b (h.own b x) y).trans (h.mine b x y),λb x y z=>(h'.low b x y z).trans (h.low b x y z),
  λi x=>(h'.cell i x).trans (h.cell i x),h'.pay∘h.pay⟩
theorem Ex.weaken{S':Nat->Prop}(h:Ex Wg C n B Cl S w w')(hs:∀b,S b->S' b):Ex Wg C n B Cl S' w w':=
 ⟨h.size,h.tape,h.os,h.tag,h.own,λb x y=>h.mine b x λz=>y (hs b z),h.low,h.cell,h.pay⟩
theorem Ro.ex(h:Ro Wg C n B Cl w w'):Ex Wg C n B Cl S w w':=
 ⟨h.size,h.tape,h.os,λ_=>fQ h.tag,λb x=>(h.yL b).2 x,λb x _=>h.mine b x,h.low,h.cell,h.pay⟩
theorem Ex.rely(h:Ex Wg C n B Cl S w w')(r:Ro Wg C n B Cl w' w₁):Ex Wg C n B Cl S w w₁:=h.trans r.ex
theorem qj[rq]:Terms (Ro Wg C n B Cl) (Dg Wg C n B Cl):=⟨λ_ _ _ a b=>Ro.trans a b,λw=>Dg.idle w⟩
theorem ae5[rq]:LetsDraw (Dg Wg C n B Cl):=λw=>⟨az _,rfl,rfl,λ_ _ _ _=>rfl,λ_ _=>rfl,id,ax⟩
omit [Payload]in
theorem sQ(ho:w'.output=w.output)(hs:w.heap.size<=w'.heap.size){b:Nat}(h:qZ w b):qZ w' b:=by unfold qZ UI IV at*;rw[ho];exact h.imp id λx=>⟨x.1,ag⟩
omit [Payload]in
theorem CZ(ho:w'.output=w.output):IV w'=IV w:=by unfold IV;rw[ho]
omit [Payload]in
theorem zY(ho:w'.output=w.output)(ht:IV w<=w.heap.size){b:Nat}(h1:w.heap.size<=b)(h2:b<w'.heap.size):qZ w' b:=by refine .inr ⟨?_,h2⟩;rw[CZ ho];omega
omit [Payload]in
theorem uS(w:ah)(o:Obj):(w.alloc o).heap.size=w.heap.size+1:=av9 ..
omit [Payload]in
theorem t_(w:ah)(a:Addr)(v:ai):(w.setCell a v).heap.size=w.heap.size:=by simp[World.setCell]
omit [Payload]in
theorem al0(ht:∀b∈UI w,b<w.heap.size){b:Nat}(h:qZ w b):b<w.heap.size:=h.elim (ht b) (·.2)
theorem Ex.alloc(hC:C<w.heap.size)(hB:B<=w.heap.size)(hm:∀b,qZ w b->b<w.heap.size)(o:Obj):Ex Wg C n B Cl S w (w.alloc o):=
 ⟨iL,rfl,rfl,λh=>by rw[CZ (w:=w) (w':=w.alloc o) rfl,uS];omega,λb h=>sQ (w:=w) (w':=w.alloc o) rfl iL h,λb h _=>dI _ _ _ (hm b h),λb h _ _=>dI _ _ _ ag,
  λi _=>lJ _ _ _ hC,λ⟨cs,h1,h2⟩=>⟨cs,(dI _ _ _ hC).trans h1,h2⟩⟩
theorem zC[rq](hC:C<w.heap.size)(o:Obj){es:aH}(he:es=#[]):Dg Wg C n B Cl w (w.alloc o) es:=by subst he;exact⟨iL,rfl,rfl,λb h _ _=>dI _ _ _ h,λi _=>lJ _ _ _ hC,λ⟨cs,h1,h2⟩=>⟨cs,(dI _ _ _ hC).trans h1,h2⟩,ax⟩
theorem Ex.set{a:Addr}{v:ai}(hne:a.block≠C)(hS:S a.block)(hl:¬(a.block<B/\a.block≠Wg)):Ex Wg C n B Cl S w (w.setCell a v):=
 ⟨eY,rfl,rfl,λh=>by rw[CZ (w:=w) (w':=w.setCell a v) rfl,t_];exact h,λb h=>sQ (w:=w) (w':=w.setCell a v) rfl eY h,λb _ h=>dD _ _ _ _ (λe=>h (e▸hS)),λb h1 h2 _=>dD _ _ _ _ (λe=>hl (by rw[<-e];exact⟨h1,h2⟩)),
  λi _=>oK _ _ _ _ (λe=>hne lg),λ⟨cs,h1,h2⟩=>⟨cs,(dD _ _ _ _ (dU hne)).trans h1,h2⟩⟩
theorem Qw[rq]{a:Addr}{v:ai}(hm:qZ w a.block)(hne:a.block≠C)(ha:a.block<w.heap.size){es:aH}(he:∀e∈es,∃b wr,e=⟨.cell b,wr,false⟩/\b.block=a.block):Dg Wg C n B Cl w (w.setCell a v) es:=by refine⟨eY,rfl,rfl,λb _ hb _=>dD _ _ _ _ (λe=>hb (e▸hm)),λi _=>oK _ _ _ _ (λe=>hne lg),λ⟨cs,h1,h2⟩=>⟨cs,(dD _ _ _ _ (dU hne)).trans h1,h2⟩,λe Ol=>?_⟩;obtain⟨b,wr,rfl,hb⟩:=he e Ol;exact⟨b,wr,rfl,eY,.inl (by rw[hb];exact hm)⟩
variable [rq]
def TD(Wg C B:Nat)(w:ah)(b:Nat):Prop:=qZ w b\/(b<B/\b≠Wg/\b≠C/\¬rq.old b)
theorem ui{b:Nat}(hr:TD Wg C B w b)(hb:b<w.heap.size){es:aH}(he:∀e∈es,∃a:Addr,e=⟨.cell a,false,false⟩/\a.block=b):Dg Wg C n B Cl w w es:=by refine⟨az _,rfl,rfl,λ_ _ _ _=>rfl,λ_ _=>rfl,id,λe Ol=>?_⟩;obtain⟨a,rfl,ha⟩:=he e Ol;exact⟨a,false,rfl,ag,hr.elim (λx=>.inl (by rw[ha];exact x)) λx=>.inr (.inr (.inr (by rw[ha];exact⟨x.1,x.2.1,x.2.2.1,rfl,x.2.2.2⟩)))⟩
theorem Ex.rdb(h:Ex Wg C n B Cl S w w'){b:Nat}(hr:TD Wg C B w b):TD Wg C B w' b:=hr.imp (h.own b) id
theorem Ex.stands(h:Ex Wg C n B Cl S w w'){b:Nat}(hr:TD Wg C B w b)(hS:¬S b):w'.heap[b]?=w.heap[b]?:=hr.elim (λx=>h.mine b x hS) λx=>h.low b x.1 x.2.1 x.2.2.1
