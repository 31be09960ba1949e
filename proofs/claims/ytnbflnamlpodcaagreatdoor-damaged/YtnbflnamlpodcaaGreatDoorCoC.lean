import Derived.Test.YtnbflnamlpodcaaGreatDoorDrX
import Derived.WalkSpells
import Derived.WalkLawsBesides
set_option maxHeartbeats 1000000
set_option maxRecDepth 100000
namespace Go.Gh
open Go.Conc Go.ConcN Go.RowKit
open Go.ConcR (Payload)
section
variable {P:Program}{main:Bool}{R:World->World->Prop}{D:World->World->Array Event->Prop}
theorem YE{b:Frame}{a:Act}{cs:List Frame}{w:World}{fn:Func}{todo:List Item}{c:Frame}{v:Value}(hn:b.kind=.normal)(hd:a.defers=[])(hf:P.funcs[b.fn]?=some fn)(hr:(results fn a.tmps).run P w=.ok v w):
  stepG P main (G {b.at a todo with mode:=.returning} (c::cs)) w=.go (G (c.finish v) cs) w (seen P b.fn ((results fn a.tmps).events P w #[])):=by
 simp[G,stepG,unwind,doReturn,Frame.at,hn,hd,hf,hr,GStep.after]
def acL(P:Program)(main:Bool)(R:World->World->Prop)(D:World->World->Array Event->Prop)(f:FuncId)(args:Array Value)(n:Nat)(w:World)(Post:Value->World->Prop):Prop:=
 ∃fn c,P.funcs[f]?=some fn/\(fn.name== "runtime.NumGoroutine")=false/\fn.body=some c/\
  ∀(b:Frame)(a:Act)(k:List Item)(cs:List Frame)(ops:Array Oper)(i:Nat)(rest:List Nat)(Stop:Goroutine->World->Prop)(m:Nat),
   (∀v w',Post v w'->Goes P main R D Stop m (G (b.at (a.put ((ops[i]?).bind (·.dst)) v) (.inRegion ops rest::k)) cs) w')->
   Goes P main R D Stop (m+n) (G ((base f).at {tmps:=args++Array.replicate (fn.ntmps-args.size) undef,defers:=[]} [.code c]) (b.at a (.inRegion ops (i::rest)::k)::cs)) w
theorem VZ(T:Terms R D){f:FuncId}{fn:Func}{c:Code}{args:Array Value}{n:Nat}{w:World}{Post:Value->World->Prop}{Q:Act->World->Prop}(hf:P.funcs[f]?=some fn)(O6:(fn.name== "runtime.NumGoroutine")=false)(hb:fn.body=some c)
  (hq:∀a' w',Q a' w'->a'.defers=[]/\∀w₁,R w' w₁->∃v,(results fn a'.tmps).run P w₁=.ok v w₁/\D w₁ w₁ (seen P f ((results fn a'.tmps).events P w₁ #[]))/\Post v w₁)
  (h:c.wpC P main R D f n (λe a' w'=>match e with| .ret| .normal=>Q a' w'|_=>False) {tmps:=args++Array.replicate (fn.ntmps-args.size) undef,defers:=[]} w):acL P main R D f args (n+2) w Post:=by
 refine⟨fn,c,hf,O6,hb,λb a k cs ops i rest Stop m hK=>?_⟩
 have akB:∀(a':Act)(w':World)(todo:List Item),Q a' w'->Goes P main R D Stop (m+1) (G {(base f).at a' todo with mode:=.returning} (b.at a (.inRegion ops (i::rest)::k)::cs)) w':=by
  intro a' w' todo hQ;obtain⟨hd,hr⟩:=hq a' w' hQ;refine ay rfl λw₁ h₁=>?_
  obtain⟨v,h1,h2,h3⟩:=hr w₁ h₁;rw[YE (b:=base f) rfl hd hf h1,Frame.finish_at];exact⟨h2,hK v w₁ h3⟩
 have:=h (base f) [] (b.at a (.inRegion ops (i::rest)::k)::cs) Stop (m+2) rfl (by simp[base]) λe a' w' q=>by
  cases e with
  |normal=>exact ay rfl λw₁ h₁=>by rw[stepG_end];exact⟨T.idle _,(akB a' w' [] q).rely T.trans h₁⟩
  |ret=>exact λtodo=>(akB a' w' todo q).more
  |exit id=>exact q.elim
  |goto l=>exact q.elim
  |panic ch=>exact q.elim
  |outgrown=>exact q.elim
 exact this.mono ae
theorem acM(T:Terms R D){fn:FuncId}{Q:Exit->Act->World->Prop}{a:Act}{w:World}{ops:Array Oper}{i:Nat}{rest:List Nat}{o:Oper}{f:FuncId}{args:Array Operand}{ats:Array TypeId}{nf n:Nat}{Post:Value->World->Prop}
  (ho:ops[i]?=some o) (hw:Region.wanted o (yielded ops a.tmps)=true) (uJ:o.op=.call {callee:=.value (.func f),args,argTypes:=ats})
  (arj:acL P main R D f (args.map a.eval) nf w Post) (qH:∀v w',Post v w'->OpsC P main R D fn ops rest n Q (a.put o.dst v) w'):OpsC P main R D fn ops (i::rest) (n+nf+1) Q a w:=by
 intro b k cs Stop m hb hk hc;obtain⟨g,c,hf,O6,ark,hG⟩:=arj;have:=hG b a k cs ops i rest Stop (m+n) (λv w' p=>by rw[ho];exact qH v w' p b k cs Stop m hb hk hc);have e:m+(n+nf+1)=(m+n+nf)+1:=ae;rw[e];exact ay rfl λw₁ h₁=>goes_call ho hw hk uJ hf O6 ark ⟨T.idle _,this.rely T.trans h₁⟩
end
section
variable [Payload](Wg C n B:Nat)(Cl S:Nat->Prop)
structure Ex(w w':World):Prop where
 size:w.heap.size<=w'.heap.size
 tape:w'.tape=w.tape
 os:w'.os=w.os
 tag:Ih w<=w.heap.size->Ih w'<=w'.heap.size
 own:∀b,qO w b->qO w' b
 mine:∀b,qO w b->¬S b->w'.heap[b]?=w.heap[b]?
 low:∀b,b<B->b≠Wg->b≠C->w'.heap[b]?=w.heap[b]?
 cell:∀i,Cl i->w'.cell? ⟨C,i,none⟩=w.cell? ⟨C,i,none⟩
 pay:PayAt C n w->PayAt C n w'
end
section
variable [Payload]{Wg C n B:Nat}{Cl S:Nat->Prop}{w w' w₁:World}
theorem Ex.refl(w:World):Ex Wg C n B Cl S w w:=⟨ak _,rfl,rfl,id,λ_=>id,λ_ _ _=>rfl,λ_ _ _ _=>rfl,λ_ _=>rfl,id⟩
theorem Ex.trans(h:Ex Wg C n B Cl S w w')(h':Ex Wg C n B Cl S w' w₁):Ex Wg C n B Cl S w w₁:=
 ⟨aJ h.size h'.size,h'.tape.trans h.tape,h'.os.trans h.os,h'.tag∘h.tag,λb x=>h'.own b (h.own b x),λb x y=>(h'.mine b (h.own b x) y).trans (h.mine b x y),λb x y z=>(h'.low b x y z).trans (h.low b x y z),
  λi x=>(h'.cell i x).trans (h.cell i x),h'.pay∘h.pay⟩
theorem Ex.weaken{S':Nat->Prop}(h:Ex Wg C n B Cl S w w')(hs:∀b,S b->S' b):Ex Wg C n B Cl S' w w':=
 ⟨h.size,h.tape,h.os,h.tag,h.own,λb x y=>h.mine b x λz=>y (hs b z),h.low,h.cell,h.pay⟩
theorem Ro.ex(h:Ro Wg C n B Cl w w'):Ex Wg C n B Cl S w w':=
 ⟨h.size,h.tape,h.os,λ_=>dX h.tag,λb x=>(h.yj b).2 x,λb x _=>h.mine b x,h.low,h.cell,h.pay⟩
theorem Ex.rely(h:Ex Wg C n B Cl S w w')(r:Ro Wg C n B Cl w' w₁):Ex Wg C n B Cl S w w₁:=h.trans r.ex
theorem p_[qV]:Terms (Ro Wg C n B Cl) (Dg Wg C n B Cl):=⟨λ_ _ _ a b=>Ro.trans a b,λw=>Dg.idle w⟩
theorem aeA[qV]:LetsDraw (Dg Wg C n B Cl):=λw=>⟨ak _,rfl,rfl,λ_ _ _ _=>rfl,λ_ _=>rfl,id,ai⟩
omit [Payload]in
theorem su(ho:w'.output=w.output)(hs:w.heap.size<=w'.heap.size){b:Nat}(h:qO w b):qO w' b:=by unfold qO TV Ih at*;rw[ho];exact h.imp id λx=>⟨x.1,ae⟩
omit [Payload]in
theorem BR(ho:w'.output=w.output):Ih w'=Ih w:=by unfold Ih;rw[ho]
omit [Payload]in
theorem zG(ho:w'.output=w.output)(ht:Ih w<=w.heap.size){b:Nat}(h1:w.heap.size<=b)(h2:b<w'.heap.size):qO w' b:=by refine .inr ⟨?_,h2⟩;rw[BR ho];omega
omit [Payload]in
theorem uI(w:World)(o:Obj):(w.alloc o).heap.size=w.heap.size+1:=auo ..
omit [Payload]in
theorem tu(w:World)(a:Addr)(v:Value):(w.setCell a v).heap.size=w.heap.size:=by simp[World.setCell]
omit [Payload]in
theorem ald(ht:∀b∈TV w,b<w.heap.size){b:Nat}(h:qO w b):b<w.heap.size:=h.elim (ht b) (·.2)
theorem Ex.alloc(hC:C<w.heap.size)(hB:B<=w.heap.size)(hm:∀b,qO w b->b<w.heap.size)(o:Obj):Ex Wg C n B Cl S w (w.alloc o):=
 ⟨gU,rfl,rfl,λh=>by rw[BR (w:=w) (w':=w.alloc o) rfl,uI];omega,λb h=>su (w:=w) (w':=w.alloc o) rfl gU h,λb h _=>bM _ _ _ (hm b h),λb h _ _=>bM _ _ _ ae,
  λi _=>ku _ _ _ hC,λ⟨cs,h1,h2⟩=>⟨cs,(bM _ _ _ hC).trans h1,h2⟩⟩
theorem y_[qV](hC:C<w.heap.size)(o:Obj){es:Array Event}(he:es=#[]):Dg Wg C n B Cl w (w.alloc o) es:=by subst he;exact⟨gU,rfl,rfl,λb h _ _=>bM _ _ _ h,λi _=>ku _ _ _ hC,λ⟨cs,h1,h2⟩=>⟨cs,(bM _ _ _ hC).trans h1,h2⟩,ai⟩
theorem Ex.set{a:Addr}{v:Value}(hne:a.block≠C)(hS:S a.block)(hl:¬(a.block<B/\a.block≠Wg)):Ex Wg C n B Cl S w (w.setCell a v):=
 ⟨dI,rfl,rfl,λh=>by rw[BR (w:=w) (w':=w.setCell a v) rfl,tu];exact h,λb h=>su (w:=w) (w':=w.setCell a v) rfl dI h,λb _ h=>bF _ _ _ _ (λe=>h (e▸hS)),λb h1 h2 _=>bF _ _ _ _ (λe=>hl (by rw[<-e];exact⟨h1,h2⟩)),
  λi _=>nD _ _ _ _ (λe=>hne jU),λ⟨cs,h1,h2⟩=>⟨cs,(bF _ _ _ _ (di hne)).trans h1,h2⟩⟩
theorem PH[qV]{a:Addr}{v:Value}(hm:qO w a.block)(hne:a.block≠C)(ha:a.block<w.heap.size){es:Array Event}(he:∀e∈es,∃b wr,e=⟨.cell b,wr,false⟩/\b.block=a.block):Dg Wg C n B Cl w (w.setCell a v) es:=by refine⟨dI,rfl,rfl,λb _ hb _=>bF _ _ _ _ (λe=>hb (e▸hm)),λi _=>nD _ _ _ _ (λe=>hne jU),λ⟨cs,h1,h2⟩=>⟨cs,(bF _ _ _ _ (di hne)).trans h1,h2⟩,λe Np=>?_⟩;obtain⟨b,wr,rfl,hb⟩:=he e Np;exact⟨b,wr,rfl,dI,.inl (by rw[hb];exact hm)⟩
variable [qV]
def RY(Wg C B:Nat)(w:World)(b:Nat):Prop:=qO w b\/(b<B/\b≠Wg/\b≠C/\¬qV.old b)
theorem tK{b:Nat}(hr:RY Wg C B w b)(hb:b<w.heap.size){es:Array Event}(he:∀e∈es,∃a:Addr,e=⟨.cell a,false,false⟩/\a.block=b):Dg Wg C n B Cl w w es:=by refine⟨ak _,rfl,rfl,λ_ _ _ _=>rfl,λ_ _=>rfl,id,λe Np=>?_⟩;obtain⟨a,rfl,ha⟩:=he e Np;exact⟨a,false,rfl,ae,hr.elim (λx=>.inl (by rw[ha];exact x)) λx=>.inr (.inr (.inr (by rw[ha];exact⟨x.1,x.2.1,x.2.2.1,rfl,x.2.2.2⟩)))⟩
theorem Ex.rdb(h:Ex Wg C n B Cl S w w'){b:Nat}(hr:RY Wg C B w b):RY Wg C B w' b:=hr.imp (h.own b) id
theorem Ex.stands(h:Ex Wg C n B Cl S w w'){b:Nat}(hr:RY Wg C B w b)(hS:¬S b):w'.heap[b]?=w.heap[b]?:=hr.elim (λx=>h.mine b x hS) λx=>h.low b x.1 x.2.1 x.2.2.1
end
end Go.Gh
namespace Go.Proofs.Y
open Go.Proofs.Tryz
open Go.RowKit
theorem S9{k:IntKind}{a b:Int}(h:a=b):Ending.returned (.int k a)=.returned (.int k b):=jf
theorem amU{a:Nat}(h:128<=a):bits .xor .u8 ((a:Int)*2%256) 29=((tx a:Nat):Int):=by have e:((a:Int)*2%256)=((a*2%256:Nat):Int):=ae;rw[e,show(29:Int)=((29:Nat):Int)from rfl,u8_xor_nat _ _ ae ae,tx,aj h,eX]
theorem amV{a:Nat}(h:¬128<=a):(a:Int)*2=((tx a:Nat):Int):=by rw[tx,ah h];omega
theorem TY(a:Nat)(ha:a<256)(w:World):
  Calls prog 128 #[.int .u8 (a:Int)] w λe w'=>e=.returned (.int .u8 (tx a:Nat))/\w'=w:=by
 by_cases h:128<=a
 .go_enter func128,ntmps128;go_wp2;go_ret;exact⟨S9 (amU h),rfl⟩
 .go_enter func128,ntmps128;go_wp2;go_ret;exact⟨S9 (amV h),rfl⟩
theorem acN{x y:Int}(h:x=y):Value.int .u8 x=Value.int .u8 y:=jf
theorem aeB(y:Nat)(hy:y<256):bits .and .u8 (y:Int) 1=((y%2:Nat):Int):=by rw[show(1:Int)=((1:Nat):Int)from rfl,u8_and_nat _ _ hy ae,Nat.and_one_is_mod]
theorem aan{x y:Nat}(hx:x<256)(hy:y<256):bits .xor .u8 (x:Int) (y:Int)=((x^^^y:Nat):Int):=u8_xor_nat _ _ hx hy
theorem PK{k p x y m:Nat}(hk:k<8)(H:EI (8-k) p x y=m):
  EI (8-(k+1)) (if y%2=1 then p^^^x else p) (tx x) (y/2)=m:=by
 obtain⟨n,hn⟩:∃n,8-k=n+1:=⟨8-k-1,ae⟩;have e:8-(k+1)=n:=ae;rw[e];rw[hn,EI]at H;exact H
theorem amM(a b:Nat)(ha:a<256)(hb:b<256)(w:World):
  Calls prog 119 #[.int .u8 (a:Int),.int .u8 (b:Int)] w λe w'=>e=.returned (.int .u8 (mul a b:Nat))/\w'=w:=by
 go_enter func119,ntmps119;go_wp2
 go_loop [0,1,5,6] (λva vb vp vi=>∃k p x y:Nat,k<=8/\p<256/\x<256/\y<256/\va=.int .u8 (x:Int)/\vb=.int .u8 (y:Int)/\vp=.int .u8 (p:Int)/\vi=.int .i64 (k:Int)/\Hid (EI (8-k) p x y=mul a b)) (λ_ _ _ i=>8-(intOf i).toNat)
 case atStart=>exact⟨0,0,a,b,ae,ae,ha,hb,rfl,rfl,rfl,rfl,rfl⟩
 case round=>
  obtain⟨k,p,x,y,hk,hp,hx,hy,rfl,rfl,rfl,rfl,H⟩:=hrel;by_cases qE:k<8
  .have hand:=aeB y hy
   go_wp2_with(first|(go_at_call 128;refine(TY _ fZ _).mono ?_;rintro e w' ⟨rfl,rfl⟩))
   .have h1:((y:Int)%2==1)=true:=fZ;have h2:y%2=1:=oM;have G:=PK qE H.out;rw[aj h2]at G
    go_round
    case rel=>exact⟨k+1,p^^^x,tx x,y/2,ae,CY hp hx,Lp hx,ae,rfl,acN ae,acN (aan hp hx),aW,G⟩
    case measure=>simp[intOf];omega
   .have h1:((y:Int)%2==1)=false:=fZ;have h2:¬y%2=1:=oM;have G:=PK qE H.out;rw[ah h2]at G
    go_round
    case rel=>exact⟨k+1,p,tx x,y/2,ae,hp,Lp hx,ae,rfl,acN ae,rfl,aW,G⟩
    case measure=>simp[intOf];omega
  .have e:k=8:=ae;subst e;have G:p=mul a b:=H.out;have HG:Hid (p=mul a b):=G;clear G H;go_wp2;go_ret;exact⟨S9 ng,rfl⟩
theorem Xq{k p v m:Nat}(hk:k<7)(H:acO (7-k) p v=m):acO (7-(k+1)) (mul p p) (mul v (mul p p))=m:=by obtain⟨n,hn⟩:∃n,7-k=n+1:=⟨7-k-1,ae⟩;have e:7-(k+1)=n:=ae;rw[e];rw[hn,acO]at H;exact H
theorem aeC(a:Nat)(ha:a<256)(w:World):
  Calls prog 93 #[.int .u8 (a:Int)] w λe w'=>e=.returned (.int .u8 (inv a:Nat))/\w'=w:=by
 go_enter func93,ntmps93;go_wp2
 go_loop [3,4,6] (λvp vv vi=>∃k p v:Nat,k<=7/\p<256/\v<256/\vp=.int .u8 (p:Int)/\vv=.int .u8 (v:Int)/\vi=.int .i64 (k:Int)/\Hid (acO (7-k) p v=inv a)) (λ_ _ i=>7-(intOf i).toNat)
 case atStart=>exact⟨0,a,1,ae,ha,ae,rfl,rfl,rfl,rfl⟩
 case round=>
  obtain⟨k,p,v,hk,hp,hv,rfl,rfl,rfl,H⟩:=hrel;by_cases qE:k<7
  .have hpp:mul p p<256:=mul_lt hp
   go_wp2_with(first|(go_at_call 119;refine(amM _ _ fZ fZ _).mono ?_;rintro e w' ⟨rfl,rfl⟩))
   go_round
   case rel=>exact⟨k+1,mul p p,mul v (mul p p),ae,mul_lt hp,mul_lt hv,rfl,rfl,aW,Xq qE H.out⟩
   case measure=>simp[intOf];omega
  .have e:k=7:=ae;subst e;have HG:Hid (v=inv a):=H.out;clear H;go_wp2;go_ret;exact⟨S9 ng,rfl⟩
end Go.Proofs.Y
namespace Go.Proofs.Y
open Go.Proofs.Tryz
open Go.Conc Go.RowKit Go.Gh
open Go.ConcR (Payload)
section
variable {main:Bool}{R:World->World->Prop}{D:World->World->Array Event->Prop}
theorem aao(T:Terms R D):∃n,∀(a:Nat)(w:World),a<256->CallsC prog main R D 128 #[.int .u8 (a:Int)] n w λv w'=>v=.int .u8 (tx a:Nat)/\Since R w w':=by
 co_apply Exists.intro;intro a w ha;co_apply callsC_of_wpC func128 ax rfl;have hF:Since R w w:=.refl w;simp only[ntmps128,dY,bQ,dB,Nat.reduceAdd,Nat.reduceSub,cu,b_,bU,bY,bg,aV]
 co_go T (Since.rely T) hF (co_quiet T)
 co_split T (decide ((128:Int)<=(a:Int)))
 .intro hx;have hx':128<=a:=by have:=gp hx;omega
  co_go T (Since.rely T) hF (co_quiet T)
  refine⟨rfl,_,resultsC_tmp ax _,?_,hF⟩;have e:IntKind.u8.wrap ((a:Int)*2)=(a:Int)*2%256:=by rw[auh]
  simp only[kW,nU,iV,iU,aB];rw[e,amU hx']
 .intro hx;have hx':¬128<=a:=by have:=iL hx;omega
  co_go T (Since.rely T) hF (co_quiet T)
  refine⟨rfl,_,resultsC_tmp ax _,?_,hF⟩;have e:IntKind.u8.wrap ((a:Int)*2)=(a:Int)*2:=by rw[auh];omega
  simp only[kW,nU,iV,iU,aB];rw[e,amV hx']
end
def zH(f m:Nat):Array Value:=Array.ofFn (λx:Fin 256=>.int .u8 ((if x.val<m then mul x.val f else 0:Nat):Int))
theorem D6(f:Nat):Tryz.zeroCells209=zH f 0:=by have e:Tryz.zeroCells209=Array.replicate 256 (.int .u8 0):=ag;rw[e];apply kX;intro i;by_cases h:i<256<;>simp[zH,h]
theorem BU(f m x:Nat)(hx:x<256):(zH f m)[x]?=some (.int .u8 ((if x<m then mul x f else 0:Nat):Int)):=by simp[zH,hx]
theorem NR(f m:Nat):(zH f m).setIfInBounds m (.int .u8 ((mul m f:Nat):Int))=zH f (m+1):=by
 apply kX;intro i;rw[oz];simp only[zH,Array.size_ofFn,Array.getElem?_ofFn];by_cases h:m=i
 .subst h;simp
 .rw[ah h];by_cases hi:i<256
  .simp only[hi,dite_true]
   congr 3
   by_cases h1:i<m
   .rw[aj h1,aj ae]
   .rw[ah h1,ah ae]
  .simp[hi]
theorem ahC:∀(k:Fin 7)(f:Fin 256),tx (mul (2^k.val) f.val)=mul (2^(k.val+1)) f.val:=gW
theorem pow_add(k:Fin 8)(j f:Nat)(hj:j<2^k.val):mul (2^k.val+j) f=mul j f^^^mul (2^k.val) f:=by
 have hk:2^k.val<=128:=by have:∀k:Fin 8,2^k.val<=128:=au;exact this k
 have e:2^k.val+j=j^^^2^k.val:=by
  have:=avc hj 1;simp only[iD]at this;rw[this,iM];apply nN;intro i;simp only[Nat.testBit_or,Nat.testBit_xor,Nat.testBit_two_pow];by_cases h1:k.val=i
  .subst h1;simp[Nat.testBit_lt_two_pow hj]
  .simp[h1]
 rw[e,xk f ae ae]
theorem cell_of(w:World){N:Nat}{c:Array Value}{t:TypeId}(h:w.heap[N]?=some (.cells c t))(i:Nat):w.cell? ⟨N,i,none⟩=c[i]?:=by simp[World.cell?,h]
theorem vY(w:World){N:Nat}{c:Array Value}{t:TypeId}(h:w.heap[N]?=some (.cells c t))(i:Nat):w.frozen? ⟨N,i,none⟩=false:=by simp[World.frozen?,h]
theorem heap_set(w:World){N:Nat}{c:Array Value}{t:TypeId}(h:w.heap[N]?=some (.cells c t))(i:Nat)(v:Value):(w.setCell ⟨N,i,none⟩ v).heap[N]?=some (.cells (c.setIfInBounds i v) t):=by simp[World.setCell,gK,h]
section
variable [Payload][qV]{main:Bool}{Wg C n B:Nat}{Cl:Nat->Prop}
structure Bs(C B:Nat)(w:World):Prop where
 tg:Ih w<=w.heap.size
 hC:C<w.heap.size
 hB:B<=w.heap.size
 ow:∀b∈TV w,b<w.heap.size
omit [Payload][qV]in
theorem Bs.lt{w:World}(h:Bs C B w){b:Nat}(hb:qO w b):b<w.heap.size:=ald h.ow hb
omit [qV]in
theorem Bs.rely{w w₁:World}(h:Bs C B w)(r:Ro Wg C n B Cl w w₁):Bs C B w₁:=
 ⟨dX r.tag,aK h.hC r.size,aJ h.hB r.size,λb hb=>aK (h.lt ((r.own b).1 hb)) r.size⟩
omit [Payload][qV]in
theorem Bs.alloc{w:World}(h:Bs C B w)(o:Obj):Bs C B (w.alloc o):=
 ⟨by rw[BR (w:=w) (w':=w.alloc o) rfl,uI];have:=h.tg;omega,by rw[uI];have:=h.hC;omega,by rw[uI];have:=h.hB;omega,λb hb=>by rw[uI];have:=h.ow b hb;omega⟩
omit [Payload][qV]in
theorem Bs.set{w:World}(h:Bs C B w)(a:Addr)(v:Value):Bs C B (w.setCell a v):=
 ⟨by rw[BR (w:=w) (w':=w.setCell a v) rfl,tu];exact h.tg,by rw[tu];exact h.hC,by rw[tu];exact h.hB,λb hb=>by rw[tu];exact h.ow b hb⟩
structure PF(Wg C n B:Nat)(Cl:Nat->Prop)(w0:World)(N2 N3 f m:Nat)(w:World):Prop where
 bs:Bs C B w
 ex:Ex Wg C n B Cl (λ_=>False) w0 w
 lo2:w0.heap.size<=N2
 lo3:w0.heap.size<=N3
 ne:N2≠N3
 m2:qO w N2
 m3:qO w N3
 h2:w.heap[N2]?=some (.cells Tryz.zeroCells209 209)
 h3:w.heap[N3]?=some (.cells (zH f m) 209)
omit [qV]in
theorem PF.rely{w0 w w₁:World}{N2 N3 f m:Nat}(h:PF Wg C n B Cl w0 N2 N3 f m w)(r:Ro Wg C n B Cl w w₁):PF Wg C n B Cl w0 N2 N3 f m w₁:=
 ⟨h.bs.rely r,h.ex.rely r,h.lo2,h.lo3,h.ne,(r.yj _).2 h.m2,(r.yj _).2 h.m3,(r.mine _ h.m2).trans h.h2,(r.mine _ h.m3).trans h.h3⟩
omit [qV]in
theorem aap{w0 w:World}{S:Nat->Prop}(h:Ex Wg C n B Cl S w0 w)(hb:Bs C B w0){a:Addr}(ha:w0.heap.size<=a.block)(v:Value):Ex Wg C n B Cl S w0 (w.setCell a v):=by
 have hC:=hb.hC;have hB:=hb.hB
 refine⟨by rw[tu];exact h.size,h.tape,h.os,λht=>by rw[BR (w:=w) (w':=w.setCell a v) rfl,tu];exact h.tag ht,λb x=>su (w:=w) (w':=w.setCell a v) rfl dI (h.own b x),
  λb x y=>(bF _ _ _ _ (λe=>by have:=hb.lt x;omega)).trans (h.mine b x y),λb h1 h2 h3=>(bF _ _ _ _ (λe=>ae)).trans (h.low b h1 h2 h3),
  λi x=>(nD _ _ _ _ (λe=>by rw[e]at ha;dsimp only at ha;omega)).trans (h.cell i x),λp=>?_⟩
 obtain⟨cs,h1,h2⟩:=h.pay p;exact⟨cs,(bF _ _ _ _ ae).trans h1,h2⟩
omit [qV]in
theorem TZ{w0 w:World}{S:Nat->Prop}(h:Ex Wg C n B Cl S w0 w)(hb:Bs C B w)(o:Obj):Ex Wg C n B Cl S w0 (w.alloc o):=h.trans (Ex.alloc hb.hC hb.hB (λ_ x=>hb.lt x) o)
omit [qV]in
theorem PF.set{w0 w:World}(h0:Bs C B w0){N2 N3 f m:Nat}(h:PF Wg C n B Cl w0 N2 N3 f m w):PF Wg C n B Cl w0 N2 N3 f (m+1) (w.setCell ⟨N3,m,none⟩ (.int .u8 ((mul m f:Nat):Int))):=
 ⟨h.bs.set _ _,aap h.ex h0 h.lo3 _,h.lo2,h.lo3,h.ne,su (w:=w) (w':=w.setCell _ _) rfl dI h.m2,su (w:=w) (w':=w.setCell _ _) rfl dI h.m3,
  (bF _ _ _ _ h.ne).trans h.h2,by rw[heap_set w h.h3,NR]⟩
def aeD(k b:Nat):Prop:=b=2^k
def PO(Wg C n B:Nat)(Cl:Nat->Prop)(w0:World)(N2 N3 f:Nat)(a:Act)(w:World):Prop:=
 ∃(k b fa:Nat)(v1 v5 v6 v7 v8 v9 v10 v11 v12 VE Xb SL SN SQ Pn Po v20 v21 v22 Tv v24 Tz v26:Value),k<=8/\aeD k b/\(k<8->fa=mul b f)/\PF Wg C n B Cl w0 N2 N3 f b w/\a={tmps:=#[.int .u8 ((fa:Nat):Int),v1,.pointer (some ⟨N2,0,none⟩),.pointer (some ⟨N3,0,none⟩),.int .i64 ((b:Nat):Int),v5,v6,v7,v8,v9,v10,v11,v12,VE,Xb,SL,SN,SQ,Pn,Po,v20,v21,v22,Tv,v24,Tz,v26],defers:=[]}
def PI(Wg C n B:Nat)(Cl:Nat->Prop)(w0:World)(N2 N3 f b:Nat)(a:Act)(w:World):Prop:=
 ∃(j:Nat)(v1 v5 v6 v7 v8 v9 v12 VE Xb SL SN SQ Pn Po v20 v21 v22 Tv v24 Tz v26:Value),j<=b/\PF Wg C n B Cl w0 N2 N3 f (b+j) w/\a={tmps:=#[.int .u8 ((mul b f:Nat):Int),v1,.pointer (some ⟨N2,0,none⟩),.pointer (some ⟨N3,0,none⟩),.int .i64 ((b:Nat):Int),v5,v6,v7,v8,v9,.int .i64 ((b:Nat):Int),.int .i64 ((j:Nat):Int),v12,VE,Xb,SL,SN,SQ,Pn,Po,v20,v21,v22,Tv,v24,Tz,v26],defers:=[]}
def muO(a:Act)(_:World):Nat:=match a.tmps.getD 4 undef with| .int _ j=>256-j.toNat|_=>0
def muI(a:Act)(_:World):Nat:=match a.tmps.getD 11 undef with| .int _ j=>256-j.toNat|_=>0
end
section
variable {P:Program}
theorem GM(a:Addr):∀(n i:Nat)(acc:Array Value)(w:World)(es:Array Event),(∀j,j<n->∃v,w.cell? (a.add (i+j))=some v)->
  ∀e∈(loadCellsFrom a i n acc).events P w es,e∈es\/∃b:Addr,e=⟨.cell b,false,false⟩/\b.block=a.block
 |0,_,_,_,_,_=>λe h=>.inl (by simpa[loadCellsFrom]using h)
 |n+1,i,acc,w,es,hc=>λe h=>by
  obtain⟨u,hu⟩:=hc 0 ae;simp only[eY]at hu;have hr:(load (a.add i)).run P w=.ok u w:=by simp[hu]
  have he:(load (a.add i)).events P w es=es.push ⟨.cell (a.add i),false,false⟩:=by rw[events_load,hu];rfl
  simp only[loadCellsFrom,Sem.events_bind,hr,he]at h;rcases GM a n (i+1) (acc.push u) w _ (λj hj=>by have:=hc (j+1) ae;rwa[show i+(j+1)=i+1+j by omega]at this) e h with h|h
  .rcases jP.1 h with h|rfl
   .exact .inl h
   .exact .inr ⟨_,rfl,by unfold Addr.add;split<;>rfl⟩
  .exact .inr h
theorem add_plain(N o i:Nat):(⟨N,o,none⟩:Addr).add i=⟨N,o+i,none⟩:=by simp[Addr.add]
theorem Fz(N:Nat)(t:TypeId):∀(vs:List Value)(i:Nat)(cur:Array Value)(w:World)(es:Array Event),w.heap[N]?=some (.cells cur t)->i+vs.length<=cur.size->(∀v∈vs,v.oneCell'=true)->
  ∀e∈(storeCells ⟨N,0,none⟩ vs i).events P w es,e∈es\/∃b:Addr,e=⟨.cell b,true,false⟩/\b.block=N
 |[],_,_,_,_,_,_,_=>λe h=>.inl (by simpa[storeCells]using h)
 |v::rest,i,cur,w,es,hg,hl,h1=>λe h=>by
  have hi:i<cur.size:=by simp at hl;omega
  have hc:w.cell? ⟨N,i,none⟩=some cur[i]:=by rw[cell_of w hg];simp[hi]
  have hz:=vY w hg i;have hv:=h1 v ai;have ha:(⟨N,0,none⟩:Addr).add i=⟨N,i,none⟩:=by rw[add_plain,aT]
  have hr:(store ⟨N,i,none⟩ v).run P w=.ok () (w.setCell ⟨N,i,none⟩ v):=by cases v<;>first|(simp[Value.oneCell']at hv;done)|simp[store,Sem.run,hc,hz]
  have he:(store ⟨N,i,none⟩ v).events P w es=es.push ⟨.cell ⟨N,i,none⟩,true,false⟩:=by rw[events_store P w es _ _ _ hv,hc];simp[hz];rfl
  simp only[storeCells,Sem.events_bind,ha,hr,he]at h;rcases Fz N t rest (i+1) (cur.setIfInBounds i v) (w.setCell ⟨N,i,none⟩ v) _ (heap_set w hg i v) (by simp at hl⊢;omega) (λu hu=>h1 u (by simp[hu])) e h with h|h
  .rcases jP.1 h with h|rfl
   .exact .inl h
   .exact .inr ⟨_,rfl,rfl⟩
  .exact .inr h
variable {ρ:Operand->Value}{o:Oper}{t:TypeId}{x y:Operand}{N:Nat}{w w':World}{v:Value}
theorem QF(ho:o.op=.load t x)(hx:ρ x=.pointer (some ⟨N,0,none⟩))(hl:(loadVar t ⟨N,0,none⟩).run P w=.ok v w):(execOp ρ o).run P w=.ok (.value v) w:=by simp[execOp,ho,hx,Instr.loadAt,Instr.sureAddr,hl]
theorem acP(ho:o.op=.load t x)(hx:ρ x=.pointer (some ⟨N,0,none⟩)):(execOp ρ o).events P w #[]=(loadVar t ⟨N,0,none⟩).events P w #[]:=by simp[execOp,ho,hx,Instr.loadAt,Instr.sureAddr]
theorem NS(ho:o.op=.store t x y)(hx:ρ x=.pointer (some ⟨N,0,none⟩))(hy:ρ y=v)(hl:(storeVar t ⟨N,0,none⟩ v).run P w=.ok () w'):(execOp ρ o).run P w=.ok .skip w':=by simp[execOp,ho,hx,hy,Instr.storeAt,Instr.sureAddr,hl]
theorem QG(ho:o.op=.store t x y)(hx:ρ x=.pointer (some ⟨N,0,none⟩))(hy:ρ y=v):(execOp ρ o).events P w #[]=(storeVar t ⟨N,0,none⟩ v).events P w #[]:=by simp[execOp,ho,hx,hy,Instr.storeAt,Instr.sureAddr]
theorem PL{fn:Func}{s:Tmp}{tmps:Array Value}(hr:fn.results=#[.cell s t])(hs:tmps.getD s undef=.pointer (some ⟨N,0,none⟩))(hl:(loadVar t ⟨N,0,none⟩).run P w=.ok v w):
  (results fn tmps).run P w=.ok v w/\(results fn tmps).events P w #[]=(loadVar t ⟨N,0,none⟩).events P w #[]:=by
 simp only[kW]at hs;constructor<;>simp[results,hr,hs,asAddr,hl]
end
section
theorem ale:(prog.info? 209).map (·.size)=some 256:=ag
theorem apO(w:World)(es:Array Event):(isAgg 209).run prog w=.ok true w/\(isAgg 209).events prog w es=es:=by constructor<;>simp[isAgg]
theorem apP(w:World)(es:Array Event):(sizeOf 209).run prog w=.ok 256 w/\(sizeOf 209).events prog w es=es:=by
 have h:=ale;cases hi:prog.info? 209 with
 |none=>rw[hi]at h;cases h
 |some i=>
  rw[hi]at h;simp only[dJ,gy]at h;constructor<;>simp[sizeOf,typeInfo,hi,h]
theorem T_{w:World}{N:Nat}{c:Array Value}(h:w.heap[N]?=some (.cells c 209))(hc:c.size=256):∀e∈(loadVar 209 ⟨N,0,none⟩).events prog w #[],∃b:Addr,e=⟨.cell b,false,false⟩/\b.block=N:=by
 intro e he;simp only[loadVar,Sem.events_bind,(apO w _).2,Result.evThen,loadCells]at he
 have hev:e∈(loadCellsFrom ⟨N,0,none⟩ 0 256 #[]).events prog w #[]:=by generalize(loadCellsFrom ⟨N,0,none⟩ 0 256 #[]).run prog w=r at he;cases r<;>simpa using he
 rcases GM ⟨N,0,none⟩ 256 0 #[] w #[] (λj hj=>⟨c[j]' ae,by rw[add_plain,cell_of w h];simp[hc,hj]⟩) e hev with h|h
 .simp at h
 .exact h
theorem QH{w:World}{N:Nat}{c c':Array Value}(h:w.heap[N]?=some (.cells c 209))(hc:c.size=256)(hc':c'.size=256)(h1:∀v∈c',v.oneCell'=true):
  ∀e∈(storeVar 209 ⟨N,0,none⟩ (.agg c')).events prog w #[],∃b:Addr,e=⟨.cell b,true,false⟩/\b.block=N:=by
 intro e he;have hv:(Value.agg c').cells=c':=rfl;simp only[storeVar,Sem.events_bind,(apP w _).2,Result.evThen,hv,hc',ne_eq]at he;have hev:e∈(storeCells ⟨N,0,none⟩ c'.toList 0).events prog w #[]:=by simpa using he
 rcases Fz N 209 c'.toList 0 c w #[] h az (λv hv=>h1 v (by simpa using hv)) e hev with h|h
 .simp at h
 .exact h
theorem IZ{w:World}{N:Nat}{c:Array Value}(h:w.heap[N]?=some (.cells c 209))(hc:c.size=256):(loadVar 209 ⟨N,0,none⟩).run prog w=.ok (.agg c) w:=
 atS w N _ _ c (0,0) _ h underlying209 rfl (by rw[hc];exact ale)
theorem NT{w:World}{N:Nat}{c c':Array Value}(h:w.heap[N]?=some (.cells c 209))(hc:c.size=256)(hc':c'.size=256)(h1:∀v∈c',v.oneCell'=true):
  (storeVar 209 ⟨N,0,none⟩ (.agg c')).run prog w=.ok () (w.setRow N c'):=
 run_storeVar_row w N _ _ c c' h (by rw[hc'];exact ale) ae (kY.2 h1)
theorem NU{w:World}{N:Nat}{c:Array Value}{t:TypeId}(c':Array Value)(h:w.heap[N]?=some (.cells c t)):(w.setRow N c').heap[N]?=some (.cells c' t):=by simp[World.setRow,gK,h]
theorem uf(w:World){N b:Nat}(c':Array Value)(h:b≠N):(w.setRow N c').heap[b]?=w.heap[b]?:=by simp[World.setRow,gK,di h]
theorem xm(w:World)(N:Nat)(c':Array Value):(w.setRow N c').heap.size=w.heap.size:=by simp[World.setRow]
end
section
variable [Payload][qV]{main:Bool}{Wg C n B:Nat}{Cl:Nat->Prop}
omit [Payload][qV]in
theorem Bs.row{w:World}(h:Bs C B w)(N:Nat)(c':Array Value):Bs C B (w.setRow N c'):=
 ⟨by rw[BR (w:=w) (w':=w.setRow N c') rfl,xm];exact h.tg,by rw[xm];exact h.hC,by rw[xm];exact h.hB,λb hb=>by rw[xm];exact h.ow b hb⟩
omit [Payload][qV]in
theorem Aj(w:World){N:Nat}(c':Array Value){a:Addr}(h:a.block≠N):(w.setRow N c').cell? a=w.cell? a:=by simp[World.cell?,uf w c' h]
omit [qV]in
theorem acQ{w0 w:World}{S:Nat->Prop}(h:Ex Wg C n B Cl S w0 w)(hb:Bs C B w0){N:Nat}(ha:w0.heap.size<=N)(c':Array Value):Ex Wg C n B Cl S w0 (w.setRow N c'):=by
 have hC:=hb.hC;have hB:=hb.hB
 refine⟨by rw[xm];exact h.size,h.tape,h.os,λht=>by rw[BR (w:=w) (w':=w.setRow N c') rfl,xm];exact h.tag ht,λb x=>su (w:=w) (w':=w.setRow N c') rfl ig (h.own b x),
  λb x y=>(uf w c' (by have:=hb.lt x;omega)).trans (h.mine b x y),λb h1 h2 h3=>(uf w c' ae).trans (h.low b h1 h2 h3),
  λi x=>(Aj w c' (by dsimp only;omega)).trans (h.cell i x),λp=>?_⟩
 obtain⟨cs,h1,h2⟩:=h.pay p;exact⟨cs,(uf w c' ae).trans h1,h2⟩
theorem ahD{w:World}{N:Nat}{c':Array Value}(hm:qO w N)(hne:N≠C)(hb:N<w.heap.size){es:Array Event}(he:∀e∈es,∃b:Addr,e=⟨.cell b,true,false⟩/\b.block=N):Dg Wg C n B Cl w (w.setRow N c') es:=by refine⟨ig,rfl,rfl,λb _ Ir _=>uf w c' (λe=>Ir (e▸hm)),λi _=>Aj w c' (di hne),λ⟨cs,h1,h2⟩=>⟨cs,(uf w c' (di hne)).trans h1,h2⟩,λe Np=>?_⟩;obtain⟨b,rfl,ZT⟩:=he e Np;exact⟨b,true,rfl,ig,.inl (by rw[ZT];exact hm)⟩
end
section
variable [Payload][qV]{main:Bool}{Wg C n B:Nat}{Cl:Nat->Prop}
structure P0(Wg C n B:Nat)(Cl:Nat->Prop)(w0 w:World):Prop where
 bs:Bs C B w
 ex:Ex Wg C n B Cl (λ_=>False) w0 w
omit [qV]in
theorem P0.rely{w0 w w₁:World}(h:P0 Wg C n B Cl w0 w)(r:Ro Wg C n B Cl w w₁):P0 Wg C n B Cl w0 w₁:=⟨h.bs.rely r,h.ex.rely r⟩
structure P1(Wg C n B:Nat)(Cl:Nat->Prop)(w0:World)(N2:Nat)(w:World):Prop where
 bs:Bs C B w
 ex:Ex Wg C n B Cl (λ_=>False) w0 w
 lo2:w0.heap.size<=N2
 m2:qO w N2
 h2:w.heap[N2]?=some (.cells Tryz.zeroCells209 209)
omit [qV]in
theorem P1.rely{w0 w w₁:World}{N2:Nat}(h:P1 Wg C n B Cl w0 N2 w)(r:Ro Wg C n B Cl w w₁):P1 Wg C n B Cl w0 N2 w₁:=⟨h.bs.rely r,h.ex.rely r,h.lo2,(r.yj _).2 h.m2,(r.mine _ h.m2).trans h.h2⟩
omit [Payload][qV]in
theorem Ef(w:World)(o:Obj):(w.alloc o).heap[w.heap.size]?=some o:=by show(w.heap.push o)[w.heap.size]?=some o;simp
omit [qV]in
theorem P0.alloc{w0 w:World}(h:P0 Wg C n B Cl w0 w):P1 Wg C n B Cl w0 w.heap.size (w.alloc (.cells Tryz.zeroCells209 209)):=
 ⟨h.bs.alloc _,TZ h.ex h.bs _,h.ex.size,zG (w:=w) (w':=w.alloc _) rfl h.bs.tg (ak _) gU,Ef w _⟩
omit [Payload][qV]in
theorem alf(f:Nat):zH f 0=zH f 1:=by
 have:=NR f 0;rw[<-this];apply kX;intro i;rw[oz];split
 .rename_i h;subst h;simp[zH,zero_mul]
 .rfl
omit [qV]in
theorem P1.alloc{w0 w:World}{N2:Nat}(f:Nat)(h:P1 Wg C n B Cl w0 N2 w):PF Wg C n B Cl w0 N2 w.heap.size f 1 (w.alloc (.cells Tryz.zeroCells209 209)):=by
 have qE:=h.bs.lt h.m2
 refine⟨h.bs.alloc _,TZ h.ex h.bs _,h.lo2,h.ex.size,ae,su (w:=w) (w':=w.alloc _) rfl gU h.m2,zG (w:=w) (w':=w.alloc _) rfl h.bs.tg (ak _) gU,
  (bM _ _ _ qE).trans h.h2,?_⟩
 rw[Ef,D6 f,alf]
structure PE(Wg C n B:Nat)(Cl:Nat->Prop)(w0:World)(N2 f:Nat)(w:World):Prop where
 bs:Bs C B w
 ex:Ex Wg C n B Cl (λ_=>False) w0 w
 m2:qO w N2
 h2:w.heap[N2]?=some (.cells (zH f 256) 209)
omit [qV]in
theorem PE.rely{w0 w w₁:World}{N2 f:Nat}(h:PE Wg C n B Cl w0 N2 f w)(r:Ro Wg C n B Cl w w₁):PE Wg C n B Cl w0 N2 f w₁:=⟨h.bs.rely r,h.ex.rely r,(r.yj _).2 h.m2,(r.mine _ h.m2).trans h.h2⟩
omit [Payload][qV]in
theorem uF(f m:Nat):(zH f m).size=256:=by simp[zH]
omit [Payload][qV]in
theorem I7(f m:Nat):∀v∈zH f m,v.oneCell'=true:=by intro v hv;simp only[zH,Array.mem_ofFn]at hv;obtain⟨i,rfl⟩:=hv;rfl
omit [qV]in
theorem PF.ne0{w0 w:World}(h0:Bs C B w0){N2 N3 f m:Nat}(h:PF Wg C n B Cl w0 N2 N3 f m w):N2≠C/\N3≠C:=by have:=h0.hC;have:=h.lo2;have:=h.lo3;omega
omit [qV]in
theorem PF.cell{w0 w:World}{N2 N3 f m:Nat}(h:PF Wg C n B Cl w0 N2 N3 f m w){x:Nat}(hx:x<256)(hm:x<m):w.cell? ⟨N3,x,none⟩=some (.int .u8 ((mul x f:Nat):Int)):=by rw[cell_of _ h.h3,BU _ _ _ hx,aj hm]
omit [qV]in
theorem PF.cell0{w0 w:World}{N2 N3 f m:Nat}(h:PF Wg C n B Cl w0 N2 N3 f m w)(hx:m<256):w.cell? ⟨N3,m,none⟩=some (.int .u8 0):=by rw[cell_of _ h.h3,BU _ _ _ hx,ah ae];rfl
omit [qV]in
theorem PF.thaw{w0 w:World}{N2 N3 f m:Nat}(h:PF Wg C n B Cl w0 N2 N3 f m w)(x:Nat):w.frozen? ⟨N3,x,none⟩=false:=vY _ h.h3 x
theorem acR:∃k,∀(f:Nat)(w:World),f<256->Bs C B w->acL prog main (Ro Wg C n B Cl) (Dg Wg C n B Cl) 118 #[.int .u8 (f:Int)] k w λv w'=>v=.agg (zH f 256)/\Bs C B w'/\Ex Wg C n B Cl (λ_=>False) w w':=by
 obtain⟨kx,hx⟩:=aao (main:=main) (p_ (Wg:=Wg) (C:=C) (n:=n) (B:=B) (Cl:=Cl));co_apply Exists.intro;intro f w hf hb;co_apply VZ p_ func118 ax rfl (Q:=λa' w'=>a'.defers=[]/\∃N2,a'.tmps.getD 2 undef=.pointer (some ⟨N2,0,none⟩)/\PE Wg C n B Cl w N2 f w')
 .rintro a' w' ⟨hd,N2,ht,hE⟩;refine⟨hd,λw₁ r=>?_⟩;replace hE:=hE.rely r;obtain⟨h1,h2⟩:=PL (fn:=Tryz.f118) rfl ht (IZ hE.h2 (uF f 256));refine⟨_,h1,?_,rfl,hE.bs,hE.ex⟩;rw[h2];exact tK (.inl hE.m2) (hE.bs.lt hE.m2) (λe he=>T_ hE.h2 (uF f 256) e (mem_seen he))
 have h0:=hb;simp only[ntmps118,dY,bQ,dB,Nat.reduceAdd,Nat.reduceSub,cu,b_,bU,bY,bg,aV];have hF:P0 Wg C n B Cl w w:=⟨hb,.refl w⟩;co_apply aY p_;co_reg p_
 co_opw P0.rely hF (skip) (rw[listed_nil auB];exact y_ hF.bs.hC _ rfl)
 replace hF:=hF.alloc;generalize S_:Array.size (World.heap _)=N2 at hF⊢;clear S_;co_apply aX p_;co_then;co_apply aY p_;co_reg p_
 co_opw P1.rely hF (skip) (rw[listed_nil auB];exact y_ hF.bs.hC _ rfl)
 replace hF:=hF.alloc f;generalize hN3:Array.size (World.heap _)=N3 at hF⊢;clear hN3;co_apply aX p_;co_then;co_apply aY p_;co_apply aY p_;co_reg p_;co_op PF.rely hF (co_quiet p_);co_apply aX p_;co_then;co_apply jX p_;co_apply jG p_ (PO Wg C n B Cl w N2 N3 f) muO _ 255
 .exact⟨0,1,mul 1 f,_,_,_,_,_,_,_,_,_,_,_,_,_,_,_,_,_,_,_,_,_,_,_,ae,rfl,λ_=>rfl,hF,by rw[show mul 1 f=f from by rw[mul_comm ae hf,mul_one hf]];rfl⟩
 .simp[muO]
 .rintro a w' ⟨k,b,fa,v1,v5,v6,v7,v8,v9,v10,v11,v12,VE,Xb,SL,SN,SQ,Pn,Po,v20,v21,v22,Tv,v24,Tz,v26,hk,IG,hfa,hF,rfl⟩
  have hk8:b<=256:=by exact axD
  have t_:1<=b:=avI
  co_go p_ PF.rely hF (co_quiet p_)
  co_split p_ (decide (((b:Nat):Int)<256))
  .intro qE;have Ag:b<256:=au7;clear qE
   have hk7:k<8:=by
    rcases aQ k 8 with h|h
    .exact h
    .obtain rfl:k=8:=ae;have:b=256:=IG;omega
   obtain rfl:fa=mul b f:=hfa hk7;have hmb:mul b f<256:=mul_lt ae
   co_go p_ PF.rely hF (co_quiet p_)
   co_apply jG p_ (PI Wg C n B Cl w N2 N3 f b) muI _ 256
   .exact⟨0,_,_,_,_,_,_,_,_,_,_,_,_,_,_,_,_,_,_,_,_,_,fC _,hF,rfl⟩
   .simp[muI]
   .rintro a w' ⟨j,u1,u5,u6,u7,u8,u9,u12,u13,u14,u15,u16,u17,u18,u19,u20,u21,u22,u23,u24,u25,u26,hj,hF,rfl⟩
    co_go p_ PF.rely hF (co_quiet p_)
    co_split p_ (decide (((j:Nat):Int)<((b:Nat):Int)))
    .intro Nz;have ahE:j<b:=au8;clear Nz;have ath:(j:Int)<256:=ae
     have apQ:b+j<256:=by have:∀k:Fin 8,2^k.val+2^k.val<=256:=au;have:=this ⟨k,hk7⟩;exact axM
     have x9:(b:Int)+(j:Int)<256:=ae;have NC:0<=(b:Int)+(j:Int):=ae;have htn:((b:Int)+(j:Int)).toNat=b+j:=ae;have VV:IntKind.i64.wrap ((b:Int)+(j:Int))=((b+j:Nat):Int):=gV;have hsp:=pow_add ⟨k,hk7⟩ j f (by rw[<-(show b=2^k from IG)];exact ahE);simp only[<-(show b=2^k from IG)]at hsp;have hxr:bits .xor .u8 ((mul j f:Nat):Int) ((mul b f:Nat):Int)=((mul (b+j) f:Nat):Int):=by rw[u8_xor_nat _ _ (mul_lt ae) hmb,hsp]
     have hix:∀(w:World)(es:Array Event),(Instr.indexAt 209 (.pointer (some ⟨N3,0,none⟩)) (.int .i64 (j:Int))).events prog w es=es:=λw es=>events_indexAt_array _ _ _ _ _ _ underlying209 ⟨ae,ae⟩
     have hiy:∀(w:World)(es:Array Event),(Instr.indexAt 209 (.pointer (some ⟨N3,0,none⟩)) (.int .i64 ((b:Int)+(j:Int)))).events prog w es=es:=λw es=>events_indexAt_array _ _ _ _ _ _ underlying209 ⟨ae,ae⟩
     co_ctl p_
     co_then
     co_ctl p_
     co_ctl p_
     co_ctl p_
     co_reg p_;co_op PF.rely hF (co_quiet p_);co_op PF.rely hF (co_quiet p_);co_apply aX p_;co_then;co_reg p_;co_op PF.rely hF (co_quiet p_);co_op PF.rely hF (co_quiet p_);co_op PF.rely hF (co_quiet p_);co_op PF.rely hF (co_quiet p_)
     co_opw PF.rely hF (skip) (co_still p_)
     co_opw PF.rely hF (have hc:=hF.cell (x:=j) ae ae) (refine tK (.inl hF.m3) (hF.bs.lt hF.m3) ?_;co_evs (exact⟨_,rfl,rfl⟩))
     clear hc;co_op PF.rely hF (co_quiet p_);co_op PF.rely hF (co_quiet p_)
     co_opw PF.rely hF (skip) (co_still p_)
     co_opw PF.rely hF (have hc:=hF.cell0 apQ;have hz:=hF.thaw (b+j)) (refine PH hF.m3 (hF.ne0 h0).2 (hF.bs.lt hF.m3) ?_;co_evs (exact⟨_,_,rfl,rfl⟩))
     replace hF:=hF.set h0;rw[hsp]at hF;clear hc hz;co_apply aX p_;co_then;co_reg p_;co_op PF.rely hF (co_quiet p_);co_op PF.rely hF (co_quiet p_);co_apply aX p_;co_then;have BB:IntKind.i64.wrap ((j:Int)+1)=((j+1:Nat):Int):=gV;simp only[BB];refine⟨⟨j+1,_,_,_,_,_,_,_,_,_,_,_,_,_,_,_,_,_,_,_,_,_,ae,hF,rfl⟩,?_⟩;simp[muI];omega
    .intro Nz;obtain rfl:j=b:=au9;clear Nz
     co_go p_ PF.rely hF (co_quiet p_)
     co_apply opsC_call p_ rfl ax rfl
     .walk_nrm;exact hx _ _ hmb
     rintro v w' ⟨rfl,hs⟩;replace hF:PF Wg C n B Cl w N2 N3 f (j+j) w':=hs.elim (λe=>e▸hF) (λr=>hF.rely r);clear hs;walk_nrm;co_op PF.rely hF (co_quiet p_);co_apply aX p_;co_then;have O3:k=7\/k<7:=ae
     have hjj:aeD (k+1) (j+j):=by have e:j=2^k:=IG;show j+j=2^(k+1);rw[iO];omega
     have VV:IntKind.i64.wrap ((j:Int)*2)=((j+j:Nat):Int):=gV
     have htx:k+1<8->tx (mul j f)=mul (j+j) f:=by intro hk3;have:=ahC ⟨k,ae⟩ ⟨f,hf⟩;simp only[<-(show j=2^k from IG),<-(show j+j=2^(k+1)from hjj)]at this;exact this
     generalize tx (mul j f)=fa at htx⊢
     co_go p_ PF.rely hF (co_quiet p_)
     refine⟨⟨k+1,j+j,fa,_,_,_,_,_,_,_,_,_,_,_,_,_,_,_,_,_,_,_,_,_,_,_,ae,hjj,htx,hF,rfl⟩,?_⟩;simp[muO];omega
  .intro qE
   obtain rfl:k=8:=by
    have:=iL qE;rcases aQ k 8 with h|h
    .have h2:∀k:Fin 8,2^k.val<256:=au;have:=h2 ⟨k,h⟩;exact axM
    .omega
   obtain rfl:b=256:=IG
   co_go p_ PF.rely hF (co_quiet p_)
   co_apply opsC_cons rfl ax;intro w₁ r;replace hF:=hF.rely r;clear r;have hz:Tryz.zeroCells209.size=256:=au4;obtain⟨T,hT,hTs,hT1⟩:∃T,zH f 256=T/\T.size=256/\∀v∈T,v.oneCell'=true:=⟨_,rfl,uF f _,I7 f _⟩;have h3:=hF.h3;rw[hT]at h3;rw[QF rfl rfl (IZ h3 hTs)];simp only[uponK_value];refine⟨?_,?_⟩
   .unfold listed;rw[acP rfl rfl];exact tK (.inl hF.m3) (hF.bs.lt hF.m3) (λe he=>T_ h3 hTs e (mem_seen he))
   clear h3;walk_nrm;co_apply opsC_cons rfl ax;intro w₁ r;replace hF:=hF.rely r;clear r;have sJ:=NT (c':=T) hF.h2 hz hTs hT1;rw[NS (v:=.agg T) rfl rfl rfl sJ];simp only[uponK_skip];refine⟨?_,?_⟩
   .unfold listed;rw[QG (v:=.agg T) rfl rfl rfl];exact ahD hF.m2 (hF.ne0 h0).1 (hF.bs.lt hF.m2) (λe he=>QH (c':=T) hF.h2 hz hTs hT1 e (mem_seen he))
   clear sJ;have hE:PE Wg C n B Cl w N2 f (World.setRow w₁ N2 T):=⟨hF.bs.row _ _,acQ hF.ex h0 hF.lo2 _,su (w:=w₁) (w':=World.setRow w₁ N2 _) rfl ig hF.m2,by rw[hT];exact NU _ hF.h2⟩;walk_nrm;co_apply aX p_;co_then;co_apply wpC_ret p_;exact⟨rfl,N2,rfl,hE⟩
