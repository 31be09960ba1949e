import Derived.Test.YtnbflnamlpodcaaGreatDoorLfJ
import Derived.Handed
import Derived.Test.YtnbflnamlpodcaaGreatDoorProg
import Derived.Conc.CompanyMem
namespace Go.Lf
open Go.Conc
section
variable {P:Program}{F:FuncId->Bool}{X:Nat->Prop}{Y:Nat->Option Obj}{D:Nat->World->Array Event->Prop}{Stop:Goroutine->World->Prop}{Φ:Goroutine->World->Prop}{f:FuncId}{k:List Item}{cs:List Frame}{a:Act}{v v':World}{ops:Array Oper}{i:Nat}{rest:List Nat}{o:Oper}{u:Value}
theorem eval_func(a:Act)(g:FuncId):a.eval (.func g)=.func (.func g) #[] #[]:=rfl
theorem ahV(hF:xB P F)(DX:alq P F o=true){x:Next}(sJ:(execOp a.eval o).run P v=.ok x v'){w:World}(hs:xE X Y w v)(fn:FuncId):
  ∃w',(execOp a.eval o).run P w=.ok x w'/\xE X Y w' v'/\w.heap.size<=w'.heap.size/\NW X w' (listed P fn a o w):=by
 obtain⟨vP,_⟩:=YY hF (tmps:=a.tmps) (ρ:=a.eval) (eval_func a) (λ_=>rfl) F8.nil DX;obtain⟨w',h1,h2,h3,h4⟩:=vP.VQ w v #[] x v' ((execOp a.eval o).events P v #[]) hs (by rw[Sem.runT_eq,sJ]);rw[Sem.runT_eq,lZ]at h1;refine⟨w',h1.1,h2,by rw[hs.size,h2.size];exact h3,λe he=>?_⟩;unfold listed at he;rw[h1.2]at he;exact(h4 e (mem_seen he)).resolve_left ai
theorem BQ{id:Nat}(hD:vw X D)(hr:uh P X Y D Stop f cs (.inRegion ops (List.range ops.size)::k) a v):uh P X Y D Stop f cs (.code (.region id ops false)::k) a v:=Jf hD (λ_=>cO) hr
theorem aaC(hD:vw X D)(hr:uh P X Y D Stop f cs k a v):uh P X Y D Stop f cs (.inRegion ops []::k) a v:=Jf hD (λ_=>aH) hr
theorem alr(hF:xB P F)(hD:vw X D)(ho:ops[i]?=some o)(hw:Region.wanted o (yielded ops a.tmps)=true)(DX:alq P F o=true)(sJ:∀τ d,∃v',(execOp a.eval o).run P {v with tape:=τ,drawn:=d}=.ok (.value u) v'/\uh P X Y D Stop f cs (.inRegion ops rest::k) (a.put o.dst u) v'):uh P X Y D Stop f cs (.inRegion ops (i::rest)::k) a v:=by
 intro w hs;refine .next rfl λd=>?_
 obtain⟨v',h0,h⟩:=sJ (λp=>w.tape (d+p)) 0;obtain⟨w',h1,h2,h3,h4⟩:=ahV hF DX h0 (hs.re d 0 (λp=>w.tape (d+p)) λi q=>ai) f;exact⟨_,_,_,stepG_value (b:=base f) ho hw ni h1,hD _ _ _ h3 h4,h w' h2.t⟩
theorem Jd(hD:vw X D)(ha:a.defers=[]){fn:Func}(hf:P.funcs[f]?=some fn){c:Frame}{y:Value}(BF:∀τ d,(results fn a.tmps).run P {v with tape:=τ,drawn:=d}=.ok y {v with tape:=τ,drawn:=d})
  (h:∀w,qL X Y w v->rV P D Stop (G (c.finish y) cs) w):uh P X Y D Stop f (c::cs) [.code .ret] a v:=by
 obtain⟨tmps,d0⟩:=a;subst ha;intro w hs;refine .next rfl λd=>⟨G {(base f).at ⟨tmps,[]⟩ [.code .ret]with mode:=.returning} (c::cs),w.at d,#[],rfl,hD.nil (ak _),?_⟩
 refine .next rfl λd'=>?_
 have xn:xE X Y (w.at d') {v with tape:=λp=>w.tape (d'+p),drawn:=0}:=hs.re d' 0 _ λi q=>ai
 have hr:=BF (λp=>w.tape (d'+p)) 0;obtain⟨w',h1,h2,h3,h4⟩:=vJ (results fn tmps) (w.at d') _ #[] y _ ((results fn tmps).events P {v with tape:=λp=>w.tape (d'+p),drawn:=0} #[]) (wI fn tmps) xn pO;refine⟨G (c.finish y) cs,w',seen P f ((results fn tmps).events P {v with tape:=λp=>w.tape (d'+p),drawn:=0} #[]),?_,hD _ w' _ (dX (xn.size.trans h2.size.symm)) (λe he=>(h4 e (mem_seen he)).resolve_left ai),h w' ⟨_,_,h2⟩⟩
 have eA:∀c2 r2 u,stepG P true (G {(base f).at ⟨tmps,[]⟩ [.code .ret]with mode:=.returning} (c2::r2)) u=
   GStep.after (seen P f ((results fn tmps).runT P u #[]).2) (match((results fn tmps).runT P u #[]).1 with
    | .ok v w=>doReturn P true {(base f).at ⟨tmps,[]⟩ [.code .ret]with mode:=.returning} (c2::r2) none v w
    | .halt (.stuck s) w=>.ended (.stuck s (Frame.pos P {(base f).at ⟨tmps,[]⟩ [.code .ret]with mode:=.returning})) w
    | .halt _ w=>.ended (.stuck "return: the result variables cannot be read" (Frame.pos P {(base f).at ⟨tmps,[]⟩ [.code .ret]with mode:=.returning})) w):=λc2 r2 u=>by
  simp only[G,stepG,unwind,base,Frame.at,hf];rfl
 exact axo
end
end Go.Lf
namespace Go.Proofs.Y
open Go.Lf
def aaL:List FuncId:=[47,77,21,15,22,23,24,25,41,42,74,75,16,26,27,43,44,28,45,46,54,76,30,10,6,14,7,9,108,52,92,109,127,126,91,118,128,93,119]
def alV(f:FuncId):Bool:=aaL.contains f
noncomputable def aeT(f:FuncId):Bool:=match Tryz.prog.funcs[f]? with
 |none=>false
 |some fn=>!(fn.name== "runtime.NumGoroutine")&&match fn.body with
  |none=>false
  |some c=>GR Tryz.prog alV c
theorem ap9:aaL.all aeT=true:=ag
theorem qK:xB Tryz.prog alV:=by
 intro f hf;have h:=iZ.1 ap9 f (by simpa[alV]using hf);unfold aeT at h;split at h
 .cases h
 .rename_i fn Nr;rw[fG]at h;obtain⟨h1,h2⟩:=h;split at h2
  .cases h2
  .rename_i c hc;exact .inl ⟨fn,c,[],Nr,gQ,hc,h2,λx hx=>by simp at hx⟩
end Go.Proofs.Y
namespace Go.Proofs.Y
def tx(a:Nat):Nat:=if 128<=a then(2*a%256)^^^29 else 2*a
def EI:Nat->Nat->Nat->Nat->Nat
 |0,p,_,_=>p
 |n+1,p,a,b=>EI n (if b%2=1 then p^^^a else p) (tx a) (b/2)
def mul(a b:Nat):Nat:=EI 8 0 a b
theorem aiu:∀a:Fin 256,tx a.val=(2*a.val)^^^(285*(a.val/128)):=gW
theorem aiv:∀a:Fin 256,tx a.val<256:=gW
theorem Lp{a:Nat}(h:a<256):tx a<256:=aiv ⟨a,h⟩
theorem CY{a b:Nat}(ha:a<256)(hb:b<256):a^^^b<256:=iC (n:=8) ha hb
theorem aoh{a b:Nat}(ha:a<256)(hb:b<256):tx (a^^^b)=tx a^^^tx b:=by
 have h1:=aiu ⟨a^^^b,CY ha hb⟩;have h2:=aiu ⟨a,ha⟩;have h3:=aiu ⟨b,hb⟩;simp only at h1 h2 h3;rw[h1,h2,h3]
 have e1:2*(a^^^b)=(2*a)^^^(2*b):=by have:=Nat.shiftLeft_xor_distrib (a:=a) (b:=b) (i:=1);simpa[Nat.shiftLeft_eq,eX]using this
 have e2:(a^^^b)/128=(a/128)^^^(b/128):=by have:=nH (a:=a) (b:=b) (i:=7);simpa[nI]using this
 have e3:∀p q:Nat,p<2->q<2->285*(p^^^q)=(285*p)^^^(285*q):=by intro p q hp hq;have:p=0\/p=1:=ae;have:q=0\/q=1:=ae;rcases‹p=0\/p=1› with rfl|rfl<;>rcases‹q=0\/q=1› with rfl|rfl<;>rfl
 rw[e1,e2,e3 _ _ ae ae];rw[bJ,bJ]
 congr 1
 rw[<-bJ,iM (2*b),bJ]
theorem ap_(a b c d:Nat):(a^^^b)^^^(c^^^d)=(a^^^c)^^^(b^^^d):=by rw[bJ,bJ];congr 1;rw[<-bJ,iM b,bJ]
theorem aeU:∀(n p a b:Nat),p<256->a<256->EI n p a b<256
 |0,_,_,_,hp,_=>hp
 |n+1,p,a,b,hp,ha=>by
  rw[EI];refine aeU n _ _ _ ?_ (Lp ha);split
  .exact CY hp ha
  .exact hp
theorem mul_lt{a b:Nat}(ha:a<256):mul a b<256:=aeU 8 0 a b ae ha
theorem FD:∀(n p q a c b:Nat),a<256->c<256->EI n (p^^^q) (a^^^c) b=EI n p a b^^^EI n q c b
 |0,_,_,_,_,_,_,_=>rfl
 |n+1,p,q,a,c,b,ha,hc=>by
  rw[EI,EI,EI,aoh ha hc];split
  .rw[ap_,FD n _ _ _ _ _ (Lp ha) (Lp hc)]
  .rw[FD n _ _ _ _ _ (Lp ha) (Lp hc)]
theorem xk{a c:Nat}(b:Nat)(ha:a<256)(hc:c<256):mul (a^^^c) b=mul a b^^^mul c b:=by have:=FD 8 0 0 a c b ha hc;simpa[mul]using this
theorem aiw(b d:Nat):(b^^^d)%2=if b%2=d%2 then 0 else 1:=by exact ax0
theorem aix(b d:Nat):(b^^^d)/2=(b/2)^^^(d/2):=by exact axi
theorem Jg:∀(n p q a b d:Nat),a<256->EI n (p^^^q) a (b^^^d)=EI n p a b^^^EI n q a d
 |0,_,_,_,_,_,_=>rfl
 |n+1,p,q,a,b,d,ha=>by
  rw[EI,EI,EI,aix,aiw];rw[<-Jg n _ _ _ _ _ (Lp ha)]
  congr 1
  have h1:b%2=0\/b%2=1:=ae;have h2:d%2=0\/d%2=1:=ae;rcases h1 with h1|h1<;>rcases h2 with h2|h2<;>simp[h1,h2]
  .rw[bJ]
  .rw[bJ,bJ,iM a]
  .rw[ap_,iy,l7]
theorem wJ{a:Nat}(b d:Nat)(ha:a<256):mul a (b^^^d)=mul a b^^^mul a d:=by have:=Jg 8 0 0 a b d ha;simpa[mul]using this
def Lin(f:Nat->Nat):Prop:=∀a b,a<256->b<256->f (a^^^b)=f a^^^f b
theorem aqa:∀a:Fin 256,a.val=(((((((a.val/128%2*128)^^^(a.val/64%2*64))^^^(a.val/32%2*32))^^^(a.val/16%2*16))^^^(a.val/8%2*8))^^^(a.val/4%2*4))^^^(a.val/2%2*2))^^^(a.val%2*1):=by decide+kernel
theorem Lin.zero{f:Nat->Nat}(h:Lin f):f 0=0:=by have:=h 0 0 ae ae;rw[iy,iy]at this;exact this
theorem EU{f g:Nat->Nat}(hf:Lin f)(hg:Lin g)(x m:Nat)(hx:x<2)(h:f m=g m):f (x*m)=g (x*m):=by
 have:x=0\/x=1:=ae;rcases this with rfl|rfl
 .rw[fH,hf.zero,hg.zero]
 .rw[l9,h]
theorem Lin.ext{f g:Nat->Nat}(hf:Lin f)(hg:Lin g)(h:∀i:Fin 8,f (2^i.val)=g (2^i.val))(a:Nat)(ha:a<256):f a=g a:=by
 have e:=aqa ⟨a,ha⟩;simp only at e;have x7:a/128%2*128<256:=ae;have x6:a/64%2*64<256:=ae;have x5:a/32%2*32<256:=ae;have x4:a/16%2*16<256:=ae;have x3:a/8%2*8<256:=ae;have x2:a/4%2*4<256:=ae;have x1:a/2%2*2<256:=ae;have x0:a%2*1<256:=ae;have y6:=CY x7 x6;have y5:=CY y6 x5;have y4:=CY y5 x4;have y3:=CY y4 x3;have y2:=CY y3 x2;have y1:=CY y2 x1
 rw[e,hf _ _ y1 x0,hg _ _ y1 x0,hf _ _ y2 x1,hg _ _ y2 x1,hf _ _ y3 x2,hg _ _ y3 x2,hf _ _ y4 x3,hg _ _ y4 x3,
  hf _ _ y5 x4,hg _ _ y5 x4,hf _ _ y6 x5,hg _ _ y6 x5,hf _ _ x7 x6,hg _ _ x7 x6,
  EU hf hg _ 128 ae (h 7),EU hf hg _ 64 ae (h 6),EU hf hg _ 32 ae (h 5),EU hf hg _ 16 ae (h 4),
  EU hf hg _ 8 ae (h 3),EU hf hg _ 4 ae (h 2),EU hf hg _ 2 ae (h 1),EU hf hg _ 1 ae (h 0)]
theorem Ap(b:Nat):Lin (λa=>mul a b):=λ_ _ ha hc=>xk b ha hc
theorem Lr{a:Nat}(ha:a<256):Lin (λb=>mul a b):=λ_ _ _ _=>wJ _ _ ha
theorem mul_one{a:Nat}(ha:a<256):mul a 1=a:=
 Lin.ext (f:=λa=>mul a 1) (g:=λa=>a) (Ap 1) (λ_ _ _ _=>rfl) gW a ha
theorem mul_zero(a:Nat):mul a 0=0:=by simp[mul,EI]
theorem zero_mul{a:Nat}:mul 0 a=0:=(Ap a).zero
theorem Jh(i:Fin 8):2^i.val<256:=by revert i;decide
theorem aoi:∀i j:Fin 8,mul (2^i.val) (2^j.val)=mul (2^j.val) (2^i.val):=gW
theorem mul_comm{a b:Nat}(ha:a<256)(hb:b<256):mul a b=mul b a:=by refine Lin.ext (f:=λa=>mul a b) (g:=λa=>mul b a) (Ap b) (Lr hb) (λi=>?_) a ha;exact Lin.ext (f:=λb=>mul (2^i.val) b) (g:=λb=>mul b (2^i.val)) (Lr (Jh i)) (Ap _) (λj=>aoi i j) b hb
theorem aiy:∀i j k:Fin 8,mul (2^i.val) (mul (2^j.val) (2^k.val))=mul (mul (2^i.val) (2^j.val)) (2^k.val):=gW
theorem mul_assoc{a b c:Nat}(ha:a<256)(hb:b<256)(hc:c<256):mul a (mul b c)=mul (mul a b) c:=by
 refine Lin.ext (f:=λa=>mul a (mul b c)) (g:=λa=>mul (mul a b) c) (Ap _) ?_ (λi=>?_) a ha
 .intro x y hx hy;show mul (mul (x^^^y) b) c=_;rw[xk b hx hy,xk c (mul_lt hx) (mul_lt hy)]
 refine Lin.ext (f:=λb=>mul (2^i.val) (mul b c)) (g:=λb=>mul (mul (2^i.val) b) c) ?_ ?_ (λj=>?_) b hb
 .intro x y hx hy;show mul _ (mul (x^^^y) c)=_;rw[xk c hx hy,wJ _ _ (Jh i)]
 .intro x y hx hy;show mul (mul _ (x^^^y)) c=_;rw[wJ _ _ (Jh i),xk c (mul_lt (Jh i)) (mul_lt (Jh i))]
 refine Lin.ext (f:=λc=>mul (2^i.val) (mul (2^j.val) c)) (g:=λc=>mul (mul (2^i.val) (2^j.val)) c) ?_ ?_ (λk=>aiy i j k) c hc
 .intro x y hx hy;show mul _ (mul _ (x^^^y))=_;rw[wJ _ _ (Jh j),wJ _ _ (Jh i)]
 .intro x y hx hy;show mul (mul _ _) (x^^^y)=_;rw[wJ _ _ (mul_lt (Jh i))]
def acO:Nat->Nat->Nat->Nat
 |0,_,v=>v
 |n+1,p,v=>acO n (mul p p) (mul v (mul p p))
def inv(a:Nat):Nat:=acO 7 a 1
theorem af2:∀a:Fin 256,inv a.val<256:=gW
theorem aiz{a:Nat}(ha:a<256):inv a<256:=af2 ⟨a,ha⟩
theorem ac3:∀a:Fin 256,a.val=0\/mul a.val (inv a.val)=1:=gW
theorem alW{a:Nat}(ha:a<256)(h0:a≠0):mul a (inv a)=1:=(ac3 ⟨a,ha⟩).resolve_left h0
end Go.Proofs.Y
namespace Go.Gh
open Go.Conc
section
variable {P:Program}{main:Bool}{R:World->World->Prop}{D:World->World->Array Event->Prop}{fn:FuncId}{ops:Array Oper}{Q:Exit->Act->World->Prop}{S:World->Prop}{nf lst:Nat}
def OpX(P:Program)(main:Bool)(R:World->World->Prop)(D:World->World->Array Event->Prop)(fn:FuncId)(ops:Array Oper)(nf i:Nat)(K:Act->World->Prop)(a:Act)(w:World):Prop:=
 ∃o,ops[i]?=some o/\
  ((Region.wanted o (yielded ops a.tmps)=true/\∀w₁,R w w₁->uponK o a (λa' w'=>D w₁ w' (listed P fn a o w₁)/\K a' w') ((execOp a.eval o).run P w₁))\/
   (Region.wanted o (yielded ops a.tmps)=true/\∃f args ats Post,o.op=.call {callee:=.value (.func f),args,argTypes:=ats}/\CallsC P main R D f (args.map a.eval) nf w Post/\∀v w',Post v w'->K (a.put o.dst v) w')\/
   (Region.wanted o (yielded ops a.tmps)=false/\K (a.put o.dst undef) w))
theorem OpX.mono{i:Nat}{K K':Act->World->Prop}{a:Act}{w:World}(hK:∀a w,K a w->K' a w)(h:OpX P main R D fn ops nf i K a w):OpX P main R D fn ops nf i K' a w:=by
 obtain⟨o,ho,h⟩:=h;refine⟨o,ho,?_⟩;rcases h with⟨hw,h⟩|⟨hw,f,args,ats,Post,h1,h2,h3⟩|⟨hw,h⟩
 .exact .inl ⟨hw,λw₁ r=>uponK_mono (λ_ _ x=>⟨x.1,hK _ _ x.2⟩) (h w₁ r)⟩
 .exact .inr (.inl ⟨hw,f,args,ats,Post,h1,h2,λv w' p=>hK _ _ (h3 v w' p)⟩)
 .exact .inr (.inr ⟨hw,hK _ _ h⟩)
def Ic(P:Program)(main:Bool)(R:World->World->Prop)(D:World->World->Array Event->Prop)(fn:FuncId)(ops:Array Oper)(nf:Nat)(Q:Exit->Act->World->Prop)(S:World->Prop)(lst:Nat):Nat->Array Bool->Act->World->Prop
 |0,l,a,w=>Region.ready .any ops l=[]/\Q .normal a w
 |k+1,l,a,w=>(Region.ready .any ops l=[]->Q .normal a w)/\
  ∀i∈Region.ready .any ops l,OpX P main R D fn ops nf i (λa' w'=>(i≠lst->S w')/\Ic P main R D fn ops nf Q S lst k (l.setIfInBounds i true) a' w') a w
theorem aaM(T:Terms R D){i:Nat}{rest:List Nat}{m:Nat}{a:Act}{w:World}(h:OpX P main R D fn ops nf i (λa' w'=>OpsC P main R D fn ops rest m Q a' w') a w):OpsC P main R D fn ops (i::rest) (m+nf+3) Q a w:=by
 obtain⟨o,ho,h⟩:=h;rcases h with⟨hw,h⟩|⟨hw,f,args,ats,Post,h1,h2,h3⟩|⟨hw,h⟩
 .exact opsC_more (opsC_cons ho hw h) ae
 .exact opsC_call T ho hw h1 h2 h3
 .exact opsC_more (opsC_unwanted T ho hw h) ae
theorem Uy(T:Terms R D):∀(k t:Nat)(l:Array Bool)(a:Act)(w:World),Ic P main R D fn ops nf Q S lst k l a w->OpsC P main R D fn ops (Region.linearise.go .any ops k t l []) (k*(nf+3)+1) Q a w
 |0,t,l,a,w,h=>by simpa[Region.linearise.go]using aX T h.2
 |k+1,t,l,a,w,h=>by
  obtain⟨h0,h1⟩:=h;have e:(k+1)*(nf+3)+1=(k*(nf+3)+1)+nf+3:=by rw[fD];omega
  simp only[Region.linearise.go]
  change OpsC P main R D fn ops (match(Region.ready .any ops l)[t%(Region.ready .any ops l).length]? with
   |some i=>Region.linearise.go .any ops k (t/(Region.ready .any ops l).length) (l.setIfInBounds i true) [i]
   |none=>[].reverse) ((k+1)*(nf+3)+1) Q a w
  cases hi:(Region.ready .any ops l)[t%(Region.ready .any ops l).length]? with
  |none=>
   have amN:Region.ready .any ops l=[]:=by
    cases hr:Region.ready .any ops l with
    |nil=>rfl
    |cons x xs=>
     rw[hr,avk]at hi;have:=fJ t (show 0<(x::xs).length by simp);omega
   exact opsC_more (by simpa using aX T (h0 amN)) ae
  |some i=>
   simp only[];rw[linearise_go_acc,avi,avh,e];exact aaM T (OpX.mono (λa' w' x=>Uy T k _ _ a' w' x.2) (h1 i (iR hi)))
theorem OpX.swap{j:Nat}{oi oj:Oper}{v:Value}(hj:ops[j]?=some oj)(hap:oi.apart ops oj=true)(hsi:∀cs b,oi.op≠.select cs b)(hsj:∀cs b,oj.op≠.select cs b){K:Act->World->Prop}{a:Act}{w:World}
  (hy:YieldsIfC P D fn ops S oi v a) (h:OpX P main R D fn ops nf j K (a.put oi.dst v) w):OpX P main R D fn ops nf j (λa' w'=>YieldsIfC P D fn ops S oi v a'/\K (a'.put oi.dst v) w') a w:=by
 obtain⟨h1,h2,h3⟩:=Oper.apart_spec hap;have AV:∀u,YieldsIfC P D fn ops S oi v (a.put oj.dst u):=λu=>hy.of_same (execOp_put oi hsi a oj.dst u h3) (wanted_put oi a oj.dst u h3)
 obtain⟨o,ho,h⟩:=h;obtain rfl:oj=o:=by rw[hj]at ho;exact eU ho
 refine⟨oj,hj,?_⟩;rw[wanted_put oj a oi.dst v h1]at h;have hex:execOp (a.put oi.dst v).eval oj=execOp a.eval oj:=execOp_put oj hsj a oi.dst v h1;rcases h with⟨hw,h⟩|⟨hw,f,args,ats,Post,e1,e2,e3⟩|⟨hw,h⟩
 .refine .inl ⟨hw,λw₁ r=>?_⟩;have h:=h w₁ r;unfold listed at h⊢;rw[hex]at h;generalize(execOp a.eval oj).run P w₁=res at h⊢;cases res with
  |halt x w'=>simp only[uponK]at h
  |ok x w'=>
   cases x<;>simp only[uponK]at h⊢
   .rename_i u;exact⟨h.1,AV u,by rw[<-Act.put_comm a v u h2];exact h.2⟩
   .exact⟨h.1,AV _,by rw[<-Act.put_comm a v undef h2];exact h.2⟩
 .refine .inr (.inl ⟨hw,f,args,ats,Post,e1,?_,λu w' p=>⟨AV u,by rw[<-Act.put_comm a v u h2];exact e3 u w' p⟩⟩)
  have ea:args.map (a.put oi.dst v).eval=args.map a.eval:=by
   refine Array.map_congr_left λx hx=>Act.eval_put λd hd hxd=>h1 d hd ?_
   subst hxd;refine aub _ (List.mem_filterMap.2 ⟨.tmp d,?_,rfl⟩);rw[e1];simp[Op.operands,Call.operands,hx]
  rw[ea]at e2;exact e2
 .exact .inr (.inr ⟨hw,AV _,by rw[<-Act.put_comm a v undef h2];exact h⟩)
theorem YieldsIfC.opX(Nq:∀x y,S x->R x y->S y){i:Nat}{o:Oper}{v:Value}{a:Act}(hi:ops[i]?=some o)(hy:YieldsIfC P D fn ops S o v a){K:Act->World->Prop}(hK:∀a x y,K a x->R x y->K a y){w:World}(hS:S w)(h:K (a.put o.dst v) w):
  OpX P main R D fn ops nf i K a w:=by
 refine⟨o,hi,?_⟩;rcases hy with⟨hw,hv⟩|⟨hw,rfl⟩
 .refine .inl ⟨hw,λw₁ r=>?_⟩;rw[(hv w₁ (Nq _ _ hS r)).1];exact⟨(hv w₁ (Nq _ _ hS r)).2,hK _ _ _ h r⟩
 .exact .inr (.inr ⟨hw,h⟩)
theorem CallsC.rely(T:Terms R D){f:FuncId}{args:Array Value}{m:Nat}{w w₁:World}{Post:Value->World->Prop}(h:CallsC P main R D f args m w Post)(r:R w w₁):CallsC P main R D f args m w₁ Post:=by obtain⟨g,c,h1,h2,h3,h4⟩:=h;exact⟨g,c,h1,h2,h3,ik T h4 r⟩
theorem Ic.rely(T:Terms R D)(Nq:∀x y,S x->R x y->S y)(Ry:∀a x y,Q .normal a x->R x y->Q .normal a y):∀(k:Nat)(l:Array Bool)(a:Act)(w w₁:World),Ic P main R D fn ops nf Q S lst k l a w->R w w₁->Ic P main R D fn ops nf Q S lst k l a w₁
 |0,_,_,_,_,h,r=>⟨h.1,Ry _ _ _ h.2 r⟩
 |k+1,l,a,w,w₁,h,r=>⟨λe=>Ry _ _ _ (h.1 e) r,λi hi=>by
  obtain⟨o,ho,h⟩:=h.2 i hi;refine⟨o,ho,?_⟩;rcases h with⟨hw,h⟩|⟨hw,f,args,ats,Post,e1,e2,e3⟩|⟨hw,h⟩
  .exact .inl ⟨hw,λw₂ r₂=>h w₂ (T.trans _ _ _ r r₂)⟩
  .exact .inr (.inl ⟨hw,f,args,ats,Post,e1,CallsC.rely T e2 r,e3⟩)
  .exact .inr (.inr ⟨hw,λhne=>Nq _ _ (h.1 hne) r,Ic.rely T Nq Ry k _ _ _ _ h.2 r⟩)⟩
def DC(ops:Array Oper)(l:Array Bool):Prop:=∀j o,ops[j]?=some o->l.getD j false=true->∀e∈o.after,Region.binds .any e=true->l.getD e.on false=true
theorem DC.set{l:Array Bool}(h:DC ops l){j:Nat}(hj:j∈Region.ready .any ops l):DC ops (l.setIfInBounds j true):=by
 intro m o ho hm e he hb;by_cases hjm:j=m
 .subst hjm;obtain⟨_,o',ho',xe⟩:=mem_ready.1 hj;obtain rfl:o=o':=by rw[ho]at ho';exact eU ho'
  exact getD_set_true (xe e he hb)
 .rw[getD_set_ne false hjm]at hm;exact getD_set_true (h m o ho hm e he hb)
def waitsFor(ops:Array Oper):Nat->Nat->Nat->Bool
 |0,_,_=>false
 |n+1,j,i=>match ops[j]? with
  |none=>false
  |some o=>o.after.any λe=>Region.binds .any e&&(e.on==i||waitsFor ops n e.on i)
theorem Oa{l:Array Bool}(h:DC ops l){i:Nat}:∀(n j:Nat)(o:Oper),ops[j]?=some o->(∀e∈o.after,Region.binds .any e=true->l.getD e.on false=true)->waitsFor ops n j i=true->l.getD i false=true
 |0,_,_,_,_,hw=>by simp[waitsFor]at hw
 |n+1,j,o,ho,hd,hw=>by
  simp only[waitsFor,ho,Array.any_eq_true]at hw;obtain⟨x,hx,hw⟩:=hw;simp only[fG,kU,beq_iff_eq]at hw;have hon:=hd _ (Array.getElem_mem hx) hw.1;rcases hw.2 with e|e
  .rw[<-e];exact hon
  .cases ho':ops[o.after[x].on]? with
   |none=>
    cases n with
    |zero=>simp[waitsFor]at e
    |succ n=>simp[waitsFor,ho']at e
   |some o'=>exact Oa h n _ o' ho' (h _ o' ho' hon) e
theorem ac4(T:Terms R D)(Nq:∀x y,S x->R x y->S y)(Ry:∀a x y,Q .normal a x->R x y->Q .normal a y){i:Nat}{oi:Oper}{v:Value}(hi:ops[i]?=some oi)(aro:∀(j:Nat)(o:Oper) cs b,ops[j]?=some o->o.op≠.select cs b){nw:Nat}(hwt:waitsFor ops nw lst i=true):
  ∀(k:Nat)(l:Array Bool)(a:Act)(w:World),DC ops l->(∀j oj,ops[j]?=some oj->j≠i->l.getD j true=false->(∀e∈oj.after,Region.binds .any e=true->e.on≠i)->oi.apart ops oj=true)->
   i∈Region.ready .any ops l->YieldsIfC P D fn ops S oi v a->S w->Ic P main R D fn ops nf Q S lst k (l.setIfInBounds i true) (a.put oi.dst v) w->Ic P main R D fn ops nf Q S lst (k+1) l a w:=by
 have hK:∀j k l,∀a x y,((j≠lst->S x)/\Ic P main R D fn ops nf Q S lst k l a x)->R x y->((j≠lst->S y)/\Ic P main R D fn ops nf Q S lst k l a y):=
  λj k l a x y h r=>⟨λhne=>Nq _ _ (h.1 hne) r,Ic.rely T Nq Ry k l a x y h.2 r⟩
 intro k
 induction k with
 |zero=>
  intro l a w _ _ hr hy hS H;refine⟨λh=>(by rw[h]at hr;cases hr),λj hj=>?_⟩;by_cases hji:j=i
  .exact axp
  .have:=ready_mono hj hji;rw[H.1]at this;cases this
 |succ k ih=>
  intro l a w hdc anf hr hy hS H;refine⟨λh=>(by rw[h]at hr;cases hr),λj hj=>?_⟩;by_cases hji:j=i
  .exact axp
  .have h1:=H.2 j (ready_mono hj hji);obtain⟨arp,oj,hoj,xe⟩:=mem_ready.1 hj;have hir:i∈Region.ready .any ops (l.setIfInBounds j true):=ready_mono hr (di hji)
   have asK:∀e∈oj.after,Region.binds .any e=true->e.on≠i:=λe he hb heq=>by
    have h1:=xe e he hb;have h0:=(mem_ready.1 hr).1;rw[heq]at h1;rcases aQ i l.size with h'|h'
    .simp[h']at h0 h1;rw[h0]at h1;cases h1
    .simp[jQ h']at h1
   have h2:=OpX.swap hoj (anf j oj hoj hji arp asK) (λcs b=>aro i oi cs b hi) (λcs b=>aro j oj cs b hoj) hy h1
   have apt:∀m om,ops[m]?=some om->m≠i->(l.setIfInBounds j true).getD m true=false->(∀e∈om.after,Region.binds .any e=true->e.on≠i)->oi.apart ops om=true:=λm om hm hmi hun O4=>by
    refine anf m om hm hmi ?_ O4;by_cases hjm:j=m
    .subst hjm;exact arp
    .rw[getD_set_ne true hjm]at hun;exact hun
   have Nz:j≠lst:=by
    rintro rfl;have h1:=Oa hdc nw j oj hoj xe hwt;have h0:=(mem_ready.1 hr).1;rcases aQ i l.size with h'|h'
    .simp[h']at h0 h1;rw[h0]at h1;cases h1
    .simp[jQ h']at h1
   refine OpX.mono (λa' w' h3=>⟨λ_=>h3.2.1 Nz,ih (l.setIfInBounds j true) a' w' (hdc.set hj) apt hir h3.1 (h3.2.1 Nz) ?_⟩) h2;rw[Array.setIfInBounds_comm _ _ hji];exact h3.2.2
def dcB(ops:Array Oper)(l:Array Bool):Bool:=(List.range ops.size).all λj=>!l.getD j false||match ops[j]? with
 |some o=>o.after.all λe=>!Region.binds .any e||l.getD e.on false
 |none=>true
theorem aiA{l:Array Bool}(h:dcB ops l=true):DC ops l:=by intro j o ho hj e he hb;simp only[dcB,iZ,fK]at h;have h1:=h j (bf.1 ho).1;simp only[hj,ho,iI,jO]at h1;have h2:=kY.1 h1 e he;simpa[hb]using h2
theorem sD(T:Terms R D)(Nq:∀x y,S x->R x y->S y)(Ry:∀a x y,Q .normal a x->R x y->Q .normal a y){i:Nat}{oi:Oper}{v:Value}{k:Nat}{l:Array Bool}{a:Act}{w:World}(hi:ops[i]?=some oi)
  (hs:Region.noSelect ops=true) (hf:Region.free .any ops l i=true) (hr:(Region.ready .any ops l).contains i=true) (hwt:waitsFor ops ops.size lst i=true) (hdc:dcB ops l=true)
  (hy:YieldsIfC P D fn ops S oi v a) (hS:S w) (h:Ic P main R D fn ops nf Q S lst k (l.setIfInBounds i true) (a.put oi.dst v) w):Ic P main R D fn ops nf Q S lst (k+1) l a w:=
 ac4 T Nq Ry hi (Region.noSelect_spec hs) hwt k l a w (aiA hdc) (Region.free_spec hi hf) (by simpa using hr) hy hS h
theorem F5{i:Nat}{k:Nat}{l:Array Bool}{a:Act}{w:World}(hr:Region.ready .any ops l=[i])(h:OpX P main R D fn ops nf i (λa' w'=>(i≠lst->S w')/\Ic P main R D fn ops nf Q S lst k (l.setIfInBounds i true) a' w') a w):
  Ic P main R D fn ops nf Q S lst (k+1) l a w:=
 ⟨λh0=>absurd (hr.symm.trans h0) ai,λj hj=>by rw[hr]at hj;obtain rfl:j=i:=jb;exact h⟩
theorem JZ{l:Array Bool}{a:Act}{w:World}(hr:Region.ready .any ops l=[])(h:Q .normal a w):∀k,Ic P main R D fn ops nf Q S lst k l a w
 |0=>⟨hr,h⟩
 |_+1=>⟨λ_=>h,λi hi=>by rw[hr]at hi;cases hi⟩
theorem Ak(T:Terms R D)(hd:LetsDraw D){id:Nat}{a:Act}{w:World}(hm:P.follows .mixedOrders=true)
  (h:∀w₁,R w w₁->Ic P main R D fn ops nf Q S lst ops.size (Array.replicate ops.size false) a {w₁ with drawn:=w₁.drawn+1}):(Code.region id ops true).wpC P main R D fn (ops.size*(nf+3)+1+1) Q a w:=
 wpC_region_draw hd λw₁ h₁ t=>by simp only[Region.schedule,hm,auk,aF];exact Uy T ops.size t _ a _ (h w₁ h₁)
