import Derived.Test.YtnbflnamlpodcaaGreatDoorDrX
import Derived.WalkSpells
import Derived.WalkLawsBesides
set_option maxHeartbeats 1000000
set_option maxRecDepth 100000
namespace Go.Gh
open Go.Conc Go.ConcN Go.RowKit
open Go.ConcR (Payload)
section
variable {P:Program}{main:Bool}{R:World->World->Prop}{D:World->World->Array Event->Prop}
theorem UF{b:Frame}{a:Act}{cs:List Frame}{w:World}{fn:Func}{todo:List Item}{c:Frame}{v:Value}(hn:b.kind=.normal)(hd:a.defers=[])(hf:P.funcs[b.fn]?=some fn)(hr:(results fn a.tmps).run P w=.ok v w):
  stepG P main (G {b.at a todo with mode:=.returning} (c::cs)) w=.go (G (c.finish v) cs) w (seen P b.fn ((results fn a.tmps).events P w #[])):=by
 simp[G,stepG,unwind,doReturn,Frame.at,hn,hd,hf,hr,GStep.after]
def YW(P:Program)(main:Bool)(R:World->World->Prop)(D:World->World->Array Event->Prop)(f:FuncId)(args:Array Value)(n:Nat)(w:World)(Post:Value->World->Prop):Prop:=
 ∃fn c,P.funcs[f]?=some fn/\(fn.name== "runtime.NumGoroutine")=false/\fn.body=some c/\
  ∀(b:Frame)(a:Act)(k:List Item)(cs:List Frame)(ops:Array Oper)(i:Nat)(rest:List Nat)(Stop:Goroutine->World->Prop)(m:Nat),
   (∀v w',Post v w'->Goes P main R D Stop m (G (b.at (a.put ((ops[i]?).bind (·.dst)) v) (.inRegion ops rest::k)) cs) w')->
   Goes P main R D Stop (m+n) (G ((base f).at {tmps:=args++Array.replicate (fn.ntmps-args.size) undef,defers:=[]} [.code c]) (b.at a (.inRegion ops (i::rest)::k)::cs)) w
theorem Q7(T:Terms R D){f:FuncId}{fn:Func}{c:Code}{args:Array Value}{n:Nat}{w:World}{Post:Value->World->Prop}{Q:Act->World->Prop}(hf:P.funcs[f]?=some fn)(hname:(fn.name== "runtime.NumGoroutine")=false)(hb:fn.body=some c)
  (hq:∀a' w',Q a' w'->a'.defers=[]/\∀w₁,R w' w₁->∃v,(results fn a'.tmps).run P w₁=.ok v w₁/\D w₁ w₁ (seen P f ((results fn a'.tmps).events P w₁ #[]))/\Post v w₁)
  (h:c.wpC P main R D f n (λe a' w'=>match e with| .ret| .normal=>Q a' w'|_=>False) {tmps:=args++Array.replicate (fn.ntmps-args.size) undef,defers:=[]} w):YW P main R D f args (n+2) w Post:=by
 refine⟨fn,c,hf,hname,hb,λb a k cs ops i rest Stop m hK=>?_⟩
 have hleave:∀(a':Act)(w':World)(todo:List Item),Q a' w'->Goes P main R D Stop (m+1) (G {(base f).at a' todo with mode:=.returning} (b.at a (.inRegion ops (i::rest)::k)::cs)) w':=by
  intro a' w' todo hQ;obtain⟨hd,hr⟩:=hq a' w' hQ;refine ay rfl λw₁ h₁=>?_
  obtain⟨v,h1,h2,h3⟩:=hr w₁ h₁;rw[UF (b:=base f) rfl hd hf h1,Frame.finish_at];exact⟨h2,hK v w₁ h3⟩
 have:=h (base f) [] (b.at a (.inRegion ops (i::rest)::k)::cs) Stop (m+2) rfl (by simp[base]) λe a' w' q=>by
  cases e with
  |normal=>exact ay rfl λw₁ h₁=>by rw[stepG_end];exact⟨T.idle _,(hleave a' w' [] q).rely T.trans h₁⟩
  |ret=>exact λtodo=>(hleave a' w' todo q).more
  |exit id=>exact q.elim
  |goto l=>exact q.elim
  |panic ch=>exact q.elim
  |outgrown=>exact q.elim
 exact this.mono ae
theorem YX(T:Terms R D){fn:FuncId}{Q:Exit->Act->World->Prop}{a:Act}{w:World}{ops:Array Oper}{i:Nat}{rest:List Nat}{o:Oper}{f:FuncId}{args:Array Operand}{ats:Array TypeId}{nf n:Nat}{Post:Value->World->Prop}
  (ho:ops[i]?=some o) (hw:Region.wanted o (yielded ops a.tmps)=true) (hop:o.op=.call {callee:=.value (.func f),args,argTypes:=ats})
  (hcall:YW P main R D f (args.map a.eval) nf w Post) (hnext:∀v w',Post v w'->OpsC P main R D fn ops rest n Q (a.put o.dst v) w'):OpsC P main R D fn ops (i::rest) (n+nf+1) Q a w:=by
 intro b k cs Stop m hb hk hc;obtain⟨g,c,hf,hname,hbody,hG⟩:=hcall;have:=hG b a k cs ops i rest Stop (m+n) (λv w' p=>by rw[ho];exact hnext v w' p b k cs Stop m hb hk hc);have e:m+(n+nf+1)=(m+n+nf)+1:=ae;rw[e];exact ay rfl λw₁ h₁=>goes_call ho hw hk hop hf hname hbody ⟨T.idle _,this.rely T.trans h₁⟩
end
section
variable [Payload](Wg C n B:Nat)(Cl S:Nat->Prop)
structure Ex(w w':World):Prop where
 size:w.heap.size<=w'.heap.size
 tape:w'.tape=w.tape
 os:w'.os=w.os
 tag:EX w<=w.heap.size->EX w'<=w'.heap.size
 own:∀b,Mine w b->Mine w' b
 mine:∀b,Mine w b->¬S b->w'.heap[b]?=w.heap[b]?
 low:∀b,b<B->b≠Wg->b≠C->w'.heap[b]?=w.heap[b]?
 cell:∀i,Cl i->w'.cell? ⟨C,i,none⟩=w.cell? ⟨C,i,none⟩
 pay:PayAt C n w->PayAt C n w'
end
section
variable [Payload]{Wg C n B:Nat}{Cl S:Nat->Prop}{w w' w₁:World}
theorem Ex.refl(w:World):Ex Wg C n B Cl S w w:=⟨ak _,rfl,rfl,id,λ_=>id,λ_ _ _=>rfl,λ_ _ _ _=>rfl,λ_ _=>rfl,id⟩
theorem Ex.trans(h:Ex Wg C n B Cl S w w')(h':Ex Wg C n B Cl S w' w₁):Ex Wg C n B Cl S w w₁:=
 ⟨aK h.size h'.size,h'.tape.trans h.tape,h'.os.trans h.os,h'.tag∘h.tag,λb x=>h'.own b (h.own b x),λb x y=>(h'.mine b (h.own b x) y).trans (h.mine b x y),λb x y z=>(h'.low b x y z).trans (h.low b x y z),
  λi x=>(h'.cell i x).trans (h.cell i x),h'.pay∘h.pay⟩
theorem Ex.weaken{S':Nat->Prop}(h:Ex Wg C n B Cl S w w')(hs:∀b,S b->S' b):Ex Wg C n B Cl S' w w':=
 ⟨h.size,h.tape,h.os,h.tag,h.own,λb x y=>h.mine b x λz=>y (hs b z),h.low,h.cell,h.pay⟩
theorem Ro.ex(h:Ro Wg C n B Cl w w'):Ex Wg C n B Cl S w w':=
 ⟨h.size,h.tape,h.os,λ_=>dS h.tag,λb x=>(h.wQ b).2 x,λb x _=>h.mine b x,h.low,h.cell,h.pay⟩
theorem Ex.rely(h:Ex Wg C n B Cl S w w')(r:Ro Wg C n B Cl w' w₁):Ex Wg C n B Cl S w w₁:=h.trans r.ex
theorem p_[qN]:Terms (Ro Wg C n B Cl) (Dg Wg C n B Cl):=⟨λ_ _ _ a b=>Ro.trans a b,λw=>Dg.idle w⟩
theorem aaN[qN]:LetsDraw (Dg Wg C n B Cl):=λw=>⟨ak _,rfl,rfl,λ_ _ _ _=>rfl,λ_ _=>rfl,id,ai⟩
omit [Payload]in
theorem rD(ho:w'.output=w.output)(hs:w.heap.size<=w'.heap.size){b:Nat}(h:Mine w b):Mine w' b:=by unfold Mine O8 EX at*;rw[ho];exact h.imp id λx=>⟨x.1,ae⟩
omit [Payload]in
theorem zX(ho:w'.output=w.output):EX w'=EX w:=by unfold EX;rw[ho]
omit [Payload]in
theorem yj(ho:w'.output=w.output)(ht:EX w<=w.heap.size){b:Nat}(h1:w.heap.size<=b)(h2:b<w'.heap.size):Mine w' b:=by refine .inr ⟨?_,h2⟩;rw[zX ho];omega
omit [Payload]in
theorem tV(w:World)(o:Obj):(w.alloc o).heap.size=w.heap.size+1:=an3 ..
omit [Payload]in
theorem rZ(w:World)(a:Addr)(v:Value):(w.setCell a v).heap.size=w.heap.size:=by simp[World.setCell]
omit [Payload]in
theorem agV(ht:∀b∈O8 w,b<w.heap.size){b:Nat}(h:Mine w b):b<w.heap.size:=h.elim (ht b) (·.2)
theorem Ex.alloc(hC:C<w.heap.size)(hB:B<=w.heap.size)(hm:∀b,Mine w b->b<w.heap.size)(o:Obj):Ex Wg C n B Cl S w (w.alloc o):=
 ⟨gI,rfl,rfl,λh=>by rw[zX (w:=w) (w':=w.alloc o) rfl,tV];omega,λb h=>rD (w:=w) (w':=w.alloc o) rfl gI h,λb h _=>bK _ _ _ (hm b h),λb h _ _=>bK _ _ _ ae,
  λi _=>jW _ _ _ hC,λ⟨cs,h1,h2⟩=>⟨cs,(bK _ _ _ hC).trans h1,h2⟩⟩
theorem xP[qN](hC:C<w.heap.size)(o:Obj){es:Array Event}(he:es=#[]):Dg Wg C n B Cl w (w.alloc o) es:=by subst he;exact⟨gI,rfl,rfl,λb h _ _=>bK _ _ _ h,λi _=>jW _ _ _ hC,λ⟨cs,h1,h2⟩=>⟨cs,(bK _ _ _ hC).trans h1,h2⟩,ai⟩
theorem Ex.set{a:Addr}{v:Value}(hne:a.block≠C)(hS:S a.block)(hl:¬(a.block<B/\a.block≠Wg)):Ex Wg C n B Cl S w (w.setCell a v):=
 ⟨dJ,rfl,rfl,λh=>by rw[zX (w:=w) (w':=w.setCell a v) rfl,rZ];exact h,λb h=>rD (w:=w) (w':=w.setCell a v) rfl dJ h,λb _ h=>bG _ _ _ _ (λe=>h (e▸hS)),λb h1 h2 _=>bG _ _ _ _ (λe=>hl (by rw[<-e];exact⟨h1,h2⟩)),
  λi _=>m_ _ _ _ _ (λe=>hne jP),λ⟨cs,h1,h2⟩=>⟨cs,(bG _ _ _ _ (dh hne)).trans h1,h2⟩⟩
theorem Lr[qN]{a:Addr}{v:Value}(hm:Mine w a.block)(hne:a.block≠C)(ha:a.block<w.heap.size){es:Array Event}(he:∀e∈es,∃b wr,e=⟨.cell b,wr,false⟩/\b.block=a.block):Dg Wg C n B Cl w (w.setCell a v) es:=by refine⟨dJ,rfl,rfl,λb _ hb _=>bG _ _ _ _ (λe=>hb (e▸hm)),λi _=>m_ _ _ _ _ (λe=>hne jP),λ⟨cs,h1,h2⟩=>⟨cs,(bG _ _ _ _ (dh hne)).trans h1,h2⟩,λe he'=>?_⟩;obtain⟨b,wr,rfl,hb⟩:=he e he';exact⟨b,wr,rfl,dJ,.inl (by rw[hb];exact hm)⟩
variable [qN]
def Og(Wg C B:Nat)(w:World)(b:Nat):Prop:=Mine w b\/(b<B/\b≠Wg/\b≠C/\¬qN.old b)
theorem su{b:Nat}(hr:Og Wg C B w b)(hb:b<w.heap.size){es:Array Event}(he:∀e∈es,∃a:Addr,e=⟨.cell a,false,false⟩/\a.block=b):Dg Wg C n B Cl w w es:=by refine⟨ak _,rfl,rfl,λ_ _ _ _=>rfl,λ_ _=>rfl,id,λe he'=>?_⟩;obtain⟨a,rfl,ha⟩:=he e he';exact⟨a,false,rfl,ae,hr.elim (λx=>.inl (by rw[ha];exact x)) λx=>.inr (.inr (.inr (by rw[ha];exact⟨x.1,x.2.1,x.2.2.1,rfl,x.2.2.2⟩)))⟩
theorem Ex.We(h:Ex Wg C n B Cl S w w'){b:Nat}(hr:Og Wg C B w b):Og Wg C B w' b:=hr.imp (h.own b) id
theorem Ex.stands(h:Ex Wg C n B Cl S w w'){b:Nat}(hr:Og Wg C B w b)(hS:¬S b):w'.heap[b]?=w.heap[b]?:=hr.elim (λx=>h.mine b x hS) λx=>h.low b x.1 x.2.1 x.2.2.1
end
end Go.Gh
namespace Go.Proofs.Y
open Go.RowKit
theorem OG{k:IntKind}{a b:Int}(h:a=b):Ending.returned (.int k a)=.returned (.int k b):=iY
theorem ain{a:Nat}(h:128<=a):bits .xor .u8 ((a:Int)*2%256) 29=((tx a:Nat):Int):=by have e:((a:Int)*2%256)=((a*2%256:Nat):Int):=ae;rw[e,show(29:Int)=((29:Nat):Int)from rfl,u8_xor_nat _ _ ae ae,tx,aj h,fZ]
theorem aio{a:Nat}(h:¬128<=a):(a:Int)*2=((tx a:Nat):Int):=by rw[tx,ah h];omega
theorem O9(a:Nat)(ha:a<256)(w:World):
  Calls Tryz.prog 128 #[.int .u8 (a:Int)] w λe w'=>e=.returned (.int .u8 (tx a:Nat))/\w'=w:=by
 by_cases h:128<=a
 .go_enter Tryz.func128,Tryz.ntmps128;go_wp2;go_ret;exact⟨OG (ain h),rfl⟩
 .go_enter Tryz.func128,Tryz.ntmps128;go_wp2;go_ret;exact⟨OG (aio h),rfl⟩
theorem YY{x y:Int}(h:x=y):Value.int .u8 x=Value.int .u8 y:=iY
theorem aaO(y:Nat)(hy:y<256):bits .and .u8 (y:Int) 1=((y%2:Nat):Int):=by rw[show(1:Int)=((1:Nat):Int)from rfl,u8_and_nat _ _ hy ae,Nat.and_one_is_mod]
theorem Wh{x y:Nat}(hx:x<256)(hy:y<256):bits .xor .u8 (x:Int) (y:Int)=((x^^^y:Nat):Int):=u8_xor_nat _ _ hx hy
theorem Ls{k p x y m:Nat}(hk:k<8)(H:mulN (8-k) p x y=m):
  mulN (8-(k+1)) (if y%2=1 then p^^^x else p) (tx x) (y/2)=m:=by
 obtain⟨n,hn⟩:∃n,8-k=n+1:=⟨8-k-1,ae⟩;have e:8-(k+1)=n:=ae;rw[e];rw[hn,mulN]at H;exact H
theorem mul_any(a b:Nat)(ha:a<256)(hb:b<256)(w:World):
  Calls Tryz.prog 119 #[.int .u8 (a:Int),.int .u8 (b:Int)] w λe w'=>e=.returned (.int .u8 (mul a b:Nat))/\w'=w:=by
 go_enter Tryz.func119,Tryz.ntmps119;go_wp2
 go_loop [0,1,5,6] (λva vb vp vi=>∃k p x y:Nat,k<=8/\p<256/\x<256/\y<256/\va=.int .u8 (x:Int)/\vb=.int .u8 (y:Int)/\vp=.int .u8 (p:Int)/\vi=.int .i64 (k:Int)/\Hid (mulN (8-k) p x y=mul a b)) (λ_ _ _ i=>8-(intOf i).toNat)
 case atStart=>exact⟨0,0,a,b,ae,ae,ha,hb,rfl,rfl,rfl,rfl,rfl⟩
 case round=>
  obtain⟨k,p,x,y,hk,hp,hx,hy,rfl,rfl,rfl,rfl,H⟩:=hrel;by_cases hlt:k<8
  .have hand:=aaO y hy
   go_wp2_with(first|(go_at_call 128;refine(O9 _ fP _).mono ?_;rintro e w' ⟨rfl,rfl⟩))
   .have h1:((y:Int)%2==1)=true:=fP;have h2:y%2=1:=oG;have G:=Ls hlt H.out;rw[aj h2]at G
    go_round
    case rel=>exact⟨k+1,p^^^x,tx x,y/2,ae,Am hp hx,Io hx,ae,rfl,YY ae,YY (Wh hp hx),aV,G⟩
    case measure=>simp[intOf];omega
   .have h1:((y:Int)%2==1)=false:=fP;have h2:¬y%2=1:=oG;have G:=Ls hlt H.out;rw[ah h2]at G
    go_round
    case rel=>exact⟨k+1,p,tx x,y/2,ae,hp,Io hx,ae,rfl,YY ae,rfl,aV,G⟩
    case measure=>simp[intOf];omega
  .have e:k=8:=ae;subst e;have G:p=mul a b:=H.out;have HG:Hid (p=mul a b):=G;clear G H;go_wp2;go_ret;exact⟨OG mV,rfl⟩
theorem SS{k p v m:Nat}(hk:k<7)(H:YZ (7-k) p v=m):YZ (7-(k+1)) (mul p p) (mul v (mul p p))=m:=by obtain⟨n,hn⟩:∃n,7-k=n+1:=⟨7-k-1,ae⟩;have e:7-(k+1)=n:=ae;rw[e];rw[hn,YZ]at H;exact H
theorem aaP(a:Nat)(ha:a<256)(w:World):
  Calls Tryz.prog 93 #[.int .u8 (a:Int)] w λe w'=>e=.returned (.int .u8 (inv a:Nat))/\w'=w:=by
 go_enter Tryz.func93,Tryz.ntmps93;go_wp2
 go_loop [3,4,6] (λvp vv vi=>∃k p v:Nat,k<=7/\p<256/\v<256/\vp=.int .u8 (p:Int)/\vv=.int .u8 (v:Int)/\vi=.int .i64 (k:Int)/\Hid (YZ (7-k) p v=inv a)) (λ_ _ i=>7-(intOf i).toNat)
 case atStart=>exact⟨0,a,1,ae,ha,ae,rfl,rfl,rfl,rfl⟩
 case round=>
  obtain⟨k,p,v,hk,hp,hv,rfl,rfl,rfl,H⟩:=hrel;by_cases hlt:k<7
  .have hpp:mul p p<256:=mul_lt hp
   go_wp2_with(first|(go_at_call 119;refine(mul_any _ _ fP fP _).mono ?_;rintro e w' ⟨rfl,rfl⟩))
   go_round
   case rel=>exact⟨k+1,mul p p,mul v (mul p p),ae,mul_lt hp,mul_lt hv,rfl,rfl,aV,SS hlt H.out⟩
   case measure=>simp[intOf];omega
  .have e:k=7:=ae;subst e;have HG:Hid (v=inv a):=H.out;clear H;go_wp2;go_ret;exact⟨OG mV,rfl⟩
end Go.Proofs.Y
namespace Go.Proofs.Y
open Go.Conc Go.RowKit Go.Gh
open Go.ConcR (Payload)
section
variable {main:Bool}{R:World->World->Prop}{D:World->World->Array Event->Prop}
theorem Wi(T:Terms R D):∃n,∀(a:Nat)(w:World),a<256->CallsC Tryz.prog main R D 128 #[.int .u8 (a:Int)] n w λv w'=>v=.int .u8 (tx a:Nat)/\Since R w w':=by
 co_apply Exists.intro;intro a w ha;co_apply callsC_of_wpC Tryz.func128 ax rfl;have hF:Since R w w:=.refl w;simp only[Tryz.ntmps128,dU,bM,dA,Nat.reduceAdd,Nat.reduceSub,cu,b_,bV,bY,bf,aW]
 co_go T (Since.rely T) hF (co_quiet T)
 co_split T (decide ((128:Int)<=(a:Int)))
 .intro hx;have hx':128<=a:=by have:=gQ hx;omega
  co_go T (Since.rely T) hF (co_quiet T)
  refine⟨rfl,_,resultsC_tmp ax _,?_,hF⟩;have e:IntKind.u8.wrap ((a:Int)*2)=(a:Int)*2%256:=by rw[anX]
  simp only[kQ,nN,iM,iL,aB];rw[e,ain hx']
 .intro hx;have hx':¬128<=a:=by have:=iG hx;omega
  co_go T (Since.rely T) hF (co_quiet T)
  refine⟨rfl,_,resultsC_tmp ax _,?_,hF⟩;have e:IntKind.u8.wrap ((a:Int)*2)=(a:Int)*2:=by rw[anX];omega
  simp only[kQ,nN,iM,iL,aB];rw[e,aio hx']
end
def yt(f m:Nat):Array Value:=Array.ofFn (λx:Fin 256=>.int .u8 ((if x.val<m then mul x.val f else 0:Nat):Int))
theorem Bl(f:Nat):Tryz.zeroCells209=yt f 0:=by have e:Tryz.zeroCells209=Array.replicate 256 (.int .u8 0):=ag;rw[e];apply kR;intro i;by_cases h:i<256<;>simp[yt,h]
theorem zY(f m x:Nat)(hx:x<256):(yt f m)[x]?=some (.int .u8 ((if x<m then mul x f else 0:Nat):Int)):=by simp[yt,hx]
theorem JA(f m:Nat):(yt f m).setIfInBounds m (.int .u8 ((mul m f:Nat):Int))=yt f (m+1):=by
 apply kR;intro i;rw[nY];simp only[yt,Array.size_ofFn,Array.getElem?_ofFn];by_cases h:m=i
 .subst h;simp
 .rw[ah h];by_cases hi:i<256
  .simp only[hi,dite_true]
   congr 3
   by_cases h1:i<m
   .rw[aj h1,aj ae]
   .rw[ah h1,ah ae]
  .simp[hi]
theorem adK:∀(k:Fin 7)(f:Fin 256),tx (mul (2^k.val) f.val)=mul (2^(k.val+1)) f.val:=gJ
theorem pow_add(k:Fin 8)(j f:Nat)(hj:j<2^k.val):mul (2^k.val+j) f=mul j f^^^mul (2^k.val) f:=by
 have hk:2^k.val<=128:=by have:∀k:Fin 8,2^k.val<=128:=au;exact this k
 have e:2^k.val+j=j^^^2^k.val:=by
  have:=aoT hj 1;simp only[ja]at this;rw[this,jD];apply aoW;intro i;simp only[Nat.testBit_or,Nat.testBit_xor,Nat.testBit_two_pow];by_cases h1:k.val=i
  .subst h1;simp[Nat.testBit_lt_two_pow hj]
  .simp[h1]
 rw[e,vK f ae ae]
theorem cell_of(w:World){N:Nat}{c:Array Value}{t:TypeId}(h:w.heap[N]?=some (.cells c t))(i:Nat):w.cell? ⟨N,i,none⟩=c[i]?:=by simp[World.cell?,h]
theorem uI(w:World){N:Nat}{c:Array Value}{t:TypeId}(h:w.heap[N]?=some (.cells c t))(i:Nat):w.frozen? ⟨N,i,none⟩=false:=by simp[World.frozen?,h]
theorem heap_set(w:World){N:Nat}{c:Array Value}{t:TypeId}(h:w.heap[N]?=some (.cells c t))(i:Nat)(v:Value):(w.setCell ⟨N,i,none⟩ v).heap[N]?=some (.cells (c.setIfInBounds i v) t):=by simp[World.setCell,gB,h]
section
variable [Payload][qN]{main:Bool}{Wg C n B:Nat}{Cl:Nat->Prop}
structure Bs(C B:Nat)(w:World):Prop where
 tg:EX w<=w.heap.size
 hC:C<w.heap.size
 hB:B<=w.heap.size
 ow:∀b∈O8 w,b<w.heap.size
omit [Payload][qN]in
theorem Bs.lt{w:World}(h:Bs C B w){b:Nat}(hb:Mine w b):b<w.heap.size:=agV h.ow hb
omit [qN]in
theorem Bs.rely{w w₁:World}(h:Bs C B w)(r:Ro Wg C n B Cl w w₁):Bs C B w₁:=
 ⟨dS r.tag,aN h.hC r.size,aK h.hB r.size,λb hb=>aN (h.lt ((r.own b).1 hb)) r.size⟩
omit [Payload][qN]in
theorem Bs.alloc{w:World}(h:Bs C B w)(o:Obj):Bs C B (w.alloc o):=
 ⟨by rw[zX (w:=w) (w':=w.alloc o) rfl,tV];have:=h.tg;omega,by rw[tV];have:=h.hC;omega,by rw[tV];have:=h.hB;omega,λb hb=>by rw[tV];have:=h.ow b hb;omega⟩
omit [Payload][qN]in
theorem Bs.set{w:World}(h:Bs C B w)(a:Addr)(v:Value):Bs C B (w.setCell a v):=
 ⟨by rw[zX (w:=w) (w':=w.setCell a v) rfl,rZ];exact h.tg,by rw[rZ];exact h.hC,by rw[rZ];exact h.hB,λb hb=>by rw[rZ];exact h.ow b hb⟩
structure PF(Wg C n B:Nat)(Cl:Nat->Prop)(w0:World)(N2 N3 f m:Nat)(w:World):Prop where
 bs:Bs C B w
 ex:Ex Wg C n B Cl (λ_=>False) w0 w
 lo2:w0.heap.size<=N2
 lo3:w0.heap.size<=N3
 ne:N2≠N3
 m2:Mine w N2
 m3:Mine w N3
 h2:w.heap[N2]?=some (.cells Tryz.zeroCells209 209)
 h3:w.heap[N3]?=some (.cells (yt f m) 209)
omit [qN]in
theorem PF.rely{w0 w w₁:World}{N2 N3 f m:Nat}(h:PF Wg C n B Cl w0 N2 N3 f m w)(r:Ro Wg C n B Cl w w₁):PF Wg C n B Cl w0 N2 N3 f m w₁:=
 ⟨h.bs.rely r,h.ex.rely r,h.lo2,h.lo3,h.ne,(r.wQ _).2 h.m2,(r.wQ _).2 h.m3,(r.mine _ h.m2).trans h.h2,(r.mine _ h.m3).trans h.h3⟩
omit [qN]in
theorem Wj{w0 w:World}{S:Nat->Prop}(h:Ex Wg C n B Cl S w0 w)(hb:Bs C B w0){a:Addr}(ha:w0.heap.size<=a.block)(v:Value):Ex Wg C n B Cl S w0 (w.setCell a v):=by
 have hC:=hb.hC;have hB:=hb.hB
 refine⟨by rw[rZ];exact h.size,h.tape,h.os,λht=>by rw[zX (w:=w) (w':=w.setCell a v) rfl,rZ];exact h.tag ht,λb x=>rD (w:=w) (w':=w.setCell a v) rfl dJ (h.own b x),
  λb x y=>(bG _ _ _ _ (λe=>by have:=hb.lt x;omega)).trans (h.mine b x y),λb h1 h2 h3=>(bG _ _ _ _ (λe=>ae)).trans (h.low b h1 h2 h3),
  λi x=>(m_ _ _ _ _ (λe=>by rw[e]at ha;dsimp only at ha;omega)).trans (h.cell i x),λp=>?_⟩
 obtain⟨cs,h1,h2⟩:=h.pay p;exact⟨cs,(bG _ _ _ _ ae).trans h1,h2⟩
omit [qN]in
theorem O_{w0 w:World}{S:Nat->Prop}(h:Ex Wg C n B Cl S w0 w)(hb:Bs C B w)(o:Obj):Ex Wg C n B Cl S w0 (w.alloc o):=h.trans (Ex.alloc hb.hC hb.hB (λ_ x=>hb.lt x) o)
omit [qN]in
theorem PF.set{w0 w:World}(h0:Bs C B w0){N2 N3 f m:Nat}(h:PF Wg C n B Cl w0 N2 N3 f m w):PF Wg C n B Cl w0 N2 N3 f (m+1) (w.setCell ⟨N3,m,none⟩ (.int .u8 ((mul m f:Nat):Int))):=
 ⟨h.bs.set _ _,Wj h.ex h0 h.lo3 _,h.lo2,h.lo3,h.ne,rD (w:=w) (w':=w.setCell _ _) rfl dJ h.m2,rD (w:=w) (w':=w.setCell _ _) rfl dJ h.m3,
  (bG _ _ _ _ h.ne).trans h.h2,by rw[heap_set w h.h3,JA]⟩
def aaQ(k b:Nat):Prop:=b=2^k
def PO(Wg C n B:Nat)(Cl:Nat->Prop)(w0:World)(N2 N3 f:Nat)(a:Act)(w:World):Prop:=
 ∃(k b fa:Nat)(v1 v5 v6 v7 v8 v9 v10 v11 v12 v13 v14 v15 v16 v17 v18 v19 v20 v21 v22 v23 v24 v25 v26:Value),k<=8/\aaQ k b/\(k<8->fa=mul b f)/\PF Wg C n B Cl w0 N2 N3 f b w/\a={tmps:=#[.int .u8 ((fa:Nat):Int),v1,.pointer (some ⟨N2,0,none⟩),.pointer (some ⟨N3,0,none⟩),.int .i64 ((b:Nat):Int),v5,v6,v7,v8,v9,v10,v11,v12,v13,v14,v15,v16,v17,v18,v19,v20,v21,v22,v23,v24,v25,v26],defers:=[]}
def PI(Wg C n B:Nat)(Cl:Nat->Prop)(w0:World)(N2 N3 f b:Nat)(a:Act)(w:World):Prop:=
 ∃(j:Nat)(v1 v5 v6 v7 v8 v9 v12 v13 v14 v15 v16 v17 v18 v19 v20 v21 v22 v23 v24 v25 v26:Value),j<=b/\PF Wg C n B Cl w0 N2 N3 f (b+j) w/\a={tmps:=#[.int .u8 ((mul b f:Nat):Int),v1,.pointer (some ⟨N2,0,none⟩),.pointer (some ⟨N3,0,none⟩),.int .i64 ((b:Nat):Int),v5,v6,v7,v8,v9,.int .i64 ((b:Nat):Int),.int .i64 ((j:Nat):Int),v12,v13,v14,v15,v16,v17,v18,v19,v20,v21,v22,v23,v24,v25,v26],defers:=[]}
def muO(a:Act)(_:World):Nat:=match a.tmps.getD 4 undef with| .int _ j=>256-j.toNat|_=>0
def muI(a:Act)(_:World):Nat:=match a.tmps.getD 11 undef with| .int _ j=>256-j.toNat|_=>0
end
section
variable {P:Program}
theorem Eb(a:Addr):∀(n i:Nat)(acc:Array Value)(w:World)(es:Array Event),(∀j,j<n->∃v,w.cell? (a.add (i+j))=some v)->
  ∀e∈(loadCellsFrom a i n acc).events P w es,e∈es\/∃b:Addr,e=⟨.cell b,false,false⟩/\b.block=a.block
 |0,_,_,_,_,_=>λe h=>.inl (by simpa[loadCellsFrom]using h)
 |n+1,i,acc,w,es,hc=>λe h=>by
  obtain⟨u,hu⟩:=hc 0 ae;simp only[fG]at hu;have hr:(load (a.add i)).run P w=.ok u w:=by simp[hu]
  have he:(load (a.add i)).events P w es=es.push ⟨.cell (a.add i),false,false⟩:=by rw[events_load,hu];rfl
  simp only[loadCellsFrom,Sem.events_bind,hr,he]at h;rcases Eb a n (i+1) (acc.push u) w _ (λj hj=>by have:=hc (j+1) ae;rwa[show i+(j+1)=i+1+j by omega]at this) e h with h|h
  .rcases jI.1 h with h|rfl
   .exact .inl h
   .exact .inr ⟨_,rfl,by unfold Addr.add;split<;>rfl⟩
  .exact .inr h
theorem add_plain(N o i:Nat):(⟨N,o,none⟩:Addr).add i=⟨N,o+i,none⟩:=by simp[Addr.add]
theorem C_(N:Nat)(t:TypeId):∀(vs:List Value)(i:Nat)(cur:Array Value)(w:World)(es:Array Event),w.heap[N]?=some (.cells cur t)->i+vs.length<=cur.size->(∀v∈vs,v.oneCell'=true)->
  ∀e∈(storeCells ⟨N,0,none⟩ vs i).events P w es,e∈es\/∃b:Addr,e=⟨.cell b,true,false⟩/\b.block=N
 |[],_,_,_,_,_,_,_=>λe h=>.inl (by simpa[storeCells]using h)
 |v::rest,i,cur,w,es,hg,hl,h1=>λe h=>by
  have hi:i<cur.size:=by simp at hl;omega
  have hc:w.cell? ⟨N,i,none⟩=some cur[i]:=by rw[cell_of w hg];simp[hi]
  have hz:=uI w hg i;have hv:=h1 v ai;have ha:(⟨N,0,none⟩:Addr).add i=⟨N,i,none⟩:=by rw[add_plain,aS]
  have hr:(store ⟨N,i,none⟩ v).run P w=.ok () (w.setCell ⟨N,i,none⟩ v):=by cases v<;>first|(simp[Value.oneCell']at hv;done)|simp[store,Sem.run,hc,hz]
  have he:(store ⟨N,i,none⟩ v).events P w es=es.push ⟨.cell ⟨N,i,none⟩,true,false⟩:=by rw[events_store P w es _ _ _ hv,hc];simp[hz];rfl
  simp only[storeCells,Sem.events_bind,ha,hr,he]at h;rcases C_ N t rest (i+1) (cur.setIfInBounds i v) (w.setCell ⟨N,i,none⟩ v) _ (heap_set w hg i v) (by simp at hl⊢;omega) (λu hu=>h1 u (by simp[hu])) e h with h|h
  .rcases jI.1 h with h|rfl
   .exact .inl h
   .exact .inr ⟨_,rfl,rfl⟩
  .exact .inr h
variable {ρ:Operand->Value}{o:Oper}{t:TypeId}{x y:Operand}{N:Nat}{w w':World}{v:Value}
theorem Na(ho:o.op=.load t x)(hx:ρ x=.pointer (some ⟨N,0,none⟩))(hl:(loadVar t ⟨N,0,none⟩).run P w=.ok v w):(execOp ρ o).run P w=.ok (.value v) w:=by simp[execOp,ho,hx,Instr.loadAt,Instr.sureAddr,hl]
theorem Y0(ho:o.op=.load t x)(hx:ρ x=.pointer (some ⟨N,0,none⟩)):(execOp ρ o).events P w #[]=(loadVar t ⟨N,0,none⟩).events P w #[]:=by simp[execOp,ho,hx,Instr.loadAt,Instr.sureAddr]
theorem JB(ho:o.op=.store t x y)(hx:ρ x=.pointer (some ⟨N,0,none⟩))(hy:ρ y=v)(hl:(storeVar t ⟨N,0,none⟩ v).run P w=.ok () w'):(execOp ρ o).run P w=.ok .skip w':=by simp[execOp,ho,hx,hy,Instr.storeAt,Instr.sureAddr,hl]
theorem Nb(ho:o.op=.store t x y)(hx:ρ x=.pointer (some ⟨N,0,none⟩))(hy:ρ y=v):(execOp ρ o).events P w #[]=(storeVar t ⟨N,0,none⟩ v).events P w #[]:=by simp[execOp,ho,hx,hy,Instr.storeAt,Instr.sureAddr]
theorem Lt{fn:Func}{s:Tmp}{tmps:Array Value}(hr:fn.results=#[.cell s t])(hs:tmps.getD s undef=.pointer (some ⟨N,0,none⟩))(hl:(loadVar t ⟨N,0,none⟩).run P w=.ok v w):
  (results fn tmps).run P w=.ok v w/\(results fn tmps).events P w #[]=(loadVar t ⟨N,0,none⟩).events P w #[]:=by
 simp only[kQ]at hs;constructor<;>simp[results,hr,hs,asAddr,hl]
end
section
theorem agW:(Tryz.prog.info? 209).map (·.size)=some 256:=ag
theorem akF(w:World)(es:Array Event):(isAgg 209).run Tryz.prog w=.ok true w/\(isAgg 209).events Tryz.prog w es=es:=by constructor<;>simp[isAgg]
theorem akG(w:World)(es:Array Event):(sizeOf 209).run Tryz.prog w=.ok 256 w/\(sizeOf 209).events Tryz.prog w es=es:=by
 have h:=agW;cases hi:Tryz.prog.info? 209 with
 |none=>rw[hi]at h;cases h
 |some i=>
  rw[hi]at h;simp only[dK,fV]at h;constructor<;>simp[sizeOf,typeInfo,hi,h]
theorem Pe{w:World}{N:Nat}{c:Array Value}(h:w.heap[N]?=some (.cells c 209))(hc:c.size=256):∀e∈(loadVar 209 ⟨N,0,none⟩).events Tryz.prog w #[],∃b:Addr,e=⟨.cell b,false,false⟩/\b.block=N:=by
 intro e he;simp only[loadVar,Sem.events_bind,(akF w _).2,Result.evThen,loadCells]at he
 have hev:e∈(loadCellsFrom ⟨N,0,none⟩ 0 256 #[]).events Tryz.prog w #[]:=by generalize(loadCellsFrom ⟨N,0,none⟩ 0 256 #[]).run Tryz.prog w=r at he;cases r<;>simpa using he
 rcases Eb ⟨N,0,none⟩ 256 0 #[] w #[] (λj hj=>⟨c[j]' ae,by rw[add_plain,cell_of w h];simp[hc,hj]⟩) e hev with h|h
 .simp at h
 .exact h
theorem Nc{w:World}{N:Nat}{c c':Array Value}(h:w.heap[N]?=some (.cells c 209))(hc:c.size=256)(hc':c'.size=256)(h1:∀v∈c',v.oneCell'=true):
  ∀e∈(storeVar 209 ⟨N,0,none⟩ (.agg c')).events Tryz.prog w #[],∃b:Addr,e=⟨.cell b,true,false⟩/\b.block=N:=by
 intro e he;have hv:(Value.agg c').cells=c':=rfl;simp only[storeVar,Sem.events_bind,(akG w _).2,Result.evThen,hv,hc',ne_eq]at he;have hev:e∈(storeCells ⟨N,0,none⟩ c'.toList 0).events Tryz.prog w #[]:=by simpa using he
 rcases C_ N 209 c'.toList 0 c w #[] h az (λv hv=>h1 v (by simpa using hv)) e hev with h|h
 .simp at h
 .exact h
theorem FQ{w:World}{N:Nat}{c:Array Value}(h:w.heap[N]?=some (.cells c 209))(hc:c.size=256):(loadVar 209 ⟨N,0,none⟩).run Tryz.prog w=.ok (.agg c) w:=
 pW w N _ _ c (0,0) _ h Tryz.underlying209 rfl (by rw[hc];exact agW)
theorem JC{w:World}{N:Nat}{c c':Array Value}(h:w.heap[N]?=some (.cells c 209))(hc:c.size=256)(hc':c'.size=256)(h1:∀v∈c',v.oneCell'=true):
  (storeVar 209 ⟨N,0,none⟩ (.agg c')).run Tryz.prog w=.ok () (w.setRow N c'):=
 run_storeVar_row w N _ _ c c' h (by rw[hc'];exact agW) ae (kS.2 h1)
theorem JD{w:World}{N:Nat}{c:Array Value}{t:TypeId}(c':Array Value)(h:w.heap[N]?=some (.cells c t)):(w.setRow N c').heap[N]?=some (.cells c' t):=by simp[World.setRow,gB,h]
theorem sJ(w:World){N b:Nat}(c':Array Value)(h:b≠N):(w.setRow N c').heap[b]?=w.heap[b]?:=by simp[World.setRow,gB,dh h]
theorem vM(w:World)(N:Nat)(c':Array Value):(w.setRow N c').heap.size=w.heap.size:=by simp[World.setRow]
end
section
variable [Payload][qN]{main:Bool}{Wg C n B:Nat}{Cl:Nat->Prop}
omit [Payload][qN]in
theorem Bs.row{w:World}(h:Bs C B w)(N:Nat)(c':Array Value):Bs C B (w.setRow N c'):=
 ⟨by rw[zX (w:=w) (w':=w.setRow N c') rfl,vM];exact h.tg,by rw[vM];exact h.hC,by rw[vM];exact h.hB,λb hb=>by rw[vM];exact h.ow b hb⟩
omit [Payload][qN]in
theorem yQ(w:World){N:Nat}(c':Array Value){a:Addr}(h:a.block≠N):(w.setRow N c').cell? a=w.cell? a:=by simp[World.cell?,sJ w c' h]
omit [qN]in
theorem Y1{w0 w:World}{S:Nat->Prop}(h:Ex Wg C n B Cl S w0 w)(hb:Bs C B w0){N:Nat}(ha:w0.heap.size<=N)(c':Array Value):Ex Wg C n B Cl S w0 (w.setRow N c'):=by
 have hC:=hb.hC;have hB:=hb.hB
 refine⟨by rw[vM];exact h.size,h.tape,h.os,λht=>by rw[zX (w:=w) (w':=w.setRow N c') rfl,vM];exact h.tag ht,λb x=>rD (w:=w) (w':=w.setRow N c') rfl h_ (h.own b x),
  λb x y=>(sJ w c' (by have:=hb.lt x;omega)).trans (h.mine b x y),λb h1 h2 h3=>(sJ w c' ae).trans (h.low b h1 h2 h3),
  λi x=>(yQ w c' (by dsimp only;omega)).trans (h.cell i x),λp=>?_⟩
 obtain⟨cs,h1,h2⟩:=h.pay p;exact⟨cs,(sJ w c' ae).trans h1,h2⟩
theorem adL{w:World}{N:Nat}{c':Array Value}(hm:Mine w N)(hne:N≠C)(hb:N<w.heap.size){es:Array Event}(he:∀e∈es,∃b:Addr,e=⟨.cell b,true,false⟩/\b.block=N):Dg Wg C n B Cl w (w.setRow N c') es:=by refine⟨h_,rfl,rfl,λb _ hb' _=>sJ w c' (λe=>hb' (e▸hm)),λi _=>yQ w c' (dh hne),λ⟨cs,h1,h2⟩=>⟨cs,(sJ w c' (dh hne)).trans h1,h2⟩,λe he'=>?_⟩;obtain⟨b,rfl,hbb⟩:=he e he';exact⟨b,true,rfl,h_,.inl (by rw[hbb];exact hm)⟩
end
section
variable [Payload][qN]{main:Bool}{Wg C n B:Nat}{Cl:Nat->Prop}
structure P0(Wg C n B:Nat)(Cl:Nat->Prop)(w0 w:World):Prop where
 bs:Bs C B w
 ex:Ex Wg C n B Cl (λ_=>False) w0 w
omit [qN]in
theorem P0.rely{w0 w w₁:World}(h:P0 Wg C n B Cl w0 w)(r:Ro Wg C n B Cl w w₁):P0 Wg C n B Cl w0 w₁:=⟨h.bs.rely r,h.ex.rely r⟩
structure P1(Wg C n B:Nat)(Cl:Nat->Prop)(w0:World)(N2:Nat)(w:World):Prop where
 bs:Bs C B w
 ex:Ex Wg C n B Cl (λ_=>False) w0 w
 lo2:w0.heap.size<=N2
 m2:Mine w N2
 h2:w.heap[N2]?=some (.cells Tryz.zeroCells209 209)
omit [qN]in
theorem P1.rely{w0 w w₁:World}{N2:Nat}(h:P1 Wg C n B Cl w0 N2 w)(r:Ro Wg C n B Cl w w₁):P1 Wg C n B Cl w0 N2 w₁:=⟨h.bs.rely r,h.ex.rely r,h.lo2,(r.wQ _).2 h.m2,(r.mine _ h.m2).trans h.h2⟩
omit [Payload][qN]in
theorem BG(w:World)(o:Obj):(w.alloc o).heap[w.heap.size]?=some o:=by show(w.heap.push o)[w.heap.size]?=some o;simp
omit [qN]in
theorem P0.alloc{w0 w:World}(h:P0 Wg C n B Cl w0 w):P1 Wg C n B Cl w0 w.heap.size (w.alloc (.cells Tryz.zeroCells209 209)):=
 ⟨h.bs.alloc _,O_ h.ex h.bs _,h.ex.size,yj (w:=w) (w':=w.alloc _) rfl h.bs.tg (ak _) gI,BG w _⟩
omit [Payload][qN]in
theorem agX(f:Nat):yt f 0=yt f 1:=by
 have:=JA f 0;rw[<-this];apply kR;intro i;rw[nY];split
 .rename_i h;subst h;simp[yt,zero_mul]
 .rfl
omit [qN]in
theorem P1.alloc{w0 w:World}{N2:Nat}(f:Nat)(h:P1 Wg C n B Cl w0 N2 w):PF Wg C n B Cl w0 N2 w.heap.size f 1 (w.alloc (.cells Tryz.zeroCells209 209)):=by
 have hlt:=h.bs.lt h.m2
 refine⟨h.bs.alloc _,O_ h.ex h.bs _,h.lo2,h.ex.size,ae,rD (w:=w) (w':=w.alloc _) rfl gI h.m2,yj (w:=w) (w':=w.alloc _) rfl h.bs.tg (ak _) gI,
  (bK _ _ _ hlt).trans h.h2,?_⟩
 rw[BG,Bl f,agX]
structure PE(Wg C n B:Nat)(Cl:Nat->Prop)(w0:World)(N2 f:Nat)(w:World):Prop where
 bs:Bs C B w
 ex:Ex Wg C n B Cl (λ_=>False) w0 w
 m2:Mine w N2
 h2:w.heap[N2]?=some (.cells (yt f 256) 209)
omit [qN]in
theorem PE.rely{w0 w w₁:World}{N2 f:Nat}(h:PE Wg C n B Cl w0 N2 f w)(r:Ro Wg C n B Cl w w₁):PE Wg C n B Cl w0 N2 f w₁:=⟨h.bs.rely r,h.ex.rely r,(r.wQ _).2 h.m2,(r.mine _ h.m2).trans h.h2⟩
omit [Payload][qN]in
theorem tH(f m:Nat):(yt f m).size=256:=by simp[yt]
omit [Payload][qN]in
theorem FT(f m:Nat):∀v∈yt f m,v.oneCell'=true:=by intro v hv;simp only[yt,Array.mem_ofFn]at hv;obtain⟨i,rfl⟩:=hv;rfl
omit [qN]in
theorem PF.ne0{w0 w:World}(h0:Bs C B w0){N2 N3 f m:Nat}(h:PF Wg C n B Cl w0 N2 N3 f m w):N2≠C/\N3≠C:=by have:=h0.hC;have:=h.lo2;have:=h.lo3;omega
omit [qN]in
theorem PF.cell{w0 w:World}{N2 N3 f m:Nat}(h:PF Wg C n B Cl w0 N2 N3 f m w){x:Nat}(hx:x<256)(hm:x<m):w.cell? ⟨N3,x,none⟩=some (.int .u8 ((mul x f:Nat):Int)):=by rw[cell_of _ h.h3,zY _ _ _ hx,aj hm]
omit [qN]in
theorem PF.cell0{w0 w:World}{N2 N3 f m:Nat}(h:PF Wg C n B Cl w0 N2 N3 f m w)(hx:m<256):w.cell? ⟨N3,m,none⟩=some (.int .u8 0):=by rw[cell_of _ h.h3,zY _ _ _ hx,ah ae];rfl
omit [qN]in
theorem PF.thaw{w0 w:World}{N2 N3 f m:Nat}(h:PF Wg C n B Cl w0 N2 N3 f m w)(x:Nat):w.frozen? ⟨N3,x,none⟩=false:=uI _ h.h3 x
theorem Y5:∃k,∀(f:Nat)(w:World),f<256->Bs C B w->YW Tryz.prog main (Ro Wg C n B Cl) (Dg Wg C n B Cl) 118 #[.int .u8 (f:Int)] k w λv w'=>v=.agg (yt f 256)/\Bs C B w'/\Ex Wg C n B Cl (λ_=>False) w w':=by
 obtain⟨kx,hx⟩:=Wi (main:=main) (p_ (Wg:=Wg) (C:=C) (n:=n) (B:=B) (Cl:=Cl));co_apply Exists.intro;intro f w hf hb;co_apply Q7 p_ Tryz.func118 ax rfl (Q:=λa' w'=>a'.defers=[]/\∃N2,a'.tmps.getD 2 undef=.pointer (some ⟨N2,0,none⟩)/\PE Wg C n B Cl w N2 f w')
 .rintro a' w' ⟨hd,N2,ht,hE⟩;refine⟨hd,λw₁ r=>?_⟩;replace hE:=hE.rely r;obtain⟨h1,h2⟩:=Lt (fn:=Tryz.f118) rfl ht (FQ hE.h2 (tH f 256));refine⟨_,h1,?_,rfl,hE.bs,hE.ex⟩;rw[h2];exact su (.inl hE.m2) (hE.bs.lt hE.m2) (λe he=>Pe hE.h2 (tH f 256) e (mem_seen he))
 have h0:=hb;simp only[Tryz.ntmps118,dU,bM,dA,Nat.reduceAdd,Nat.reduceSub,cu,b_,bV,bY,bf,aW];have hF:P0 Wg C n B Cl w w:=⟨hb,.refl w⟩;co_apply aZ p_;co_reg p_
 co_opw P0.rely hF (skip) (rw[listed_nil aoe];exact xP hF.bs.hC _ rfl)
 replace hF:=hF.alloc;generalize OH:Array.size (World.heap _)=N2 at hF⊢;clear OH;co_apply aX p_;co_then;co_apply aZ p_;co_reg p_
 co_opw P1.rely hF (skip) (rw[listed_nil aoe];exact xP hF.bs.hC _ rfl)
 replace hF:=hF.alloc f;generalize hN3:Array.size (World.heap _)=N3 at hF⊢;clear hN3;co_apply aX p_;co_then;co_apply aZ p_;co_apply aZ p_;co_reg p_;co_op PF.rely hF (co_quiet p_);co_apply aX p_;co_then;co_apply jS p_;co_apply jw p_ (PO Wg C n B Cl w N2 N3 f) muO _ 255
 .exact⟨0,1,mul 1 f,_,_,_,_,_,_,_,_,_,_,_,_,_,_,_,_,_,_,_,_,_,_,_,ae,rfl,λ_=>rfl,hF,by rw[show mul 1 f=f from by rw[mul_comm ae hf,mul_one hf]];rfl⟩
 .simp[muO]
 .rintro a w' ⟨k,b,fa,v1,v5,v6,v7,v8,v9,v10,v11,v12,v13,v14,v15,v16,v17,v18,v19,v20,v21,v22,v23,v24,v25,v26,hk,hbk,hfa,hF,rfl⟩
  have hk8:b<=256:=by exact ari
  have hb1:1<=b:=aps
  co_go p_ PF.rely hF (co_quiet p_)
  co_split p_ (decide (((b:Nat):Int)<256))
  .intro hlt;have hlt':b<256:=aoL;clear hlt
   have hk7:k<8:=by
    rcases aT k 8 with h|h
    .exact h
    .obtain rfl:k=8:=ae;have:b=256:=hbk;omega
   obtain rfl:fa=mul b f:=hfa hk7;have hmb:mul b f<256:=mul_lt ae
   co_go p_ PF.rely hF (co_quiet p_)
   co_apply jw p_ (PI Wg C n B Cl w N2 N3 f b) muI _ 256
   .exact⟨0,_,_,_,_,_,_,_,_,_,_,_,_,_,_,_,_,_,_,_,_,_,gV _,hF,rfl⟩
   .simp[muI]
   .rintro a w' ⟨j,u1,u5,u6,u7,u8,u9,u12,u13,u14,u15,u16,u17,u18,u19,u20,u21,u22,u23,u24,u25,u26,hj,hF,rfl⟩
    co_go p_ PF.rely hF (co_quiet p_)
    co_split p_ (decide (((j:Nat):Int)<((b:Nat):Int)))
    .intro hjl;have adM:j<b:=aoM;clear hjl;have hj256:(j:Int)<256:=ae
     have akH:b+j<256:=by have:∀k:Fin 8,2^k.val+2^k.val<=256:=au;have:=this ⟨k,hk7⟩;exact aq0
     have hs1:(b:Int)+(j:Int)<256:=ae;have hs0:0<=(b:Int)+(j:Int):=ae;have htn:((b:Int)+(j:Int)).toNat=b+j:=ae;have hwr:IntKind.i64.wrap ((b:Int)+(j:Int))=((b+j:Nat):Int):=fD;have hsp:=pow_add ⟨k,hk7⟩ j f (by rw[<-(show b=2^k from hbk)];exact adM);simp only[<-(show b=2^k from hbk)]at hsp;have hxr:bits .xor .u8 ((mul j f:Nat):Int) ((mul b f:Nat):Int)=((mul (b+j) f:Nat):Int):=by rw[u8_xor_nat _ _ (mul_lt ae) hmb,hsp]
     have hix:∀(w:World)(es:Array Event),(Instr.indexAt 209 (.pointer (some ⟨N3,0,none⟩)) (.int .i64 (j:Int))).events Tryz.prog w es=es:=λw es=>events_indexAt_array _ _ _ _ _ _ Tryz.underlying209 ⟨ae,ae⟩
     have hiy:∀(w:World)(es:Array Event),(Instr.indexAt 209 (.pointer (some ⟨N3,0,none⟩)) (.int .i64 ((b:Int)+(j:Int)))).events Tryz.prog w es=es:=λw es=>events_indexAt_array _ _ _ _ _ _ Tryz.underlying209 ⟨ae,ae⟩
     co_ctl p_
     co_then
     co_ctl p_
     co_ctl p_
     co_ctl p_
     co_reg p_;co_op PF.rely hF (co_quiet p_);co_op PF.rely hF (co_quiet p_);co_apply aX p_;co_then;co_reg p_;co_op PF.rely hF (co_quiet p_);co_op PF.rely hF (co_quiet p_);co_op PF.rely hF (co_quiet p_);co_op PF.rely hF (co_quiet p_)
     co_opw PF.rely hF (skip) (co_still p_)
     co_opw PF.rely hF (have hc:=hF.cell (x:=j) ae ae) (refine su (.inl hF.m3) (hF.bs.lt hF.m3) ?_;co_evs (exact⟨_,rfl,rfl⟩))
     clear hc;co_op PF.rely hF (co_quiet p_);co_op PF.rely hF (co_quiet p_)
     co_opw PF.rely hF (skip) (co_still p_)
     co_opw PF.rely hF (have hc:=hF.cell0 akH;have hz:=hF.thaw (b+j)) (refine Lr hF.m3 (hF.ne0 h0).2 (hF.bs.lt hF.m3) ?_;co_evs (exact⟨_,_,rfl,rfl⟩))
     replace hF:=hF.set h0;rw[hsp]at hF;clear hc hz;co_apply aX p_;co_then;co_reg p_;co_op PF.rely hF (co_quiet p_);co_op PF.rely hF (co_quiet p_);co_apply aX p_;co_then;have hw1:IntKind.i64.wrap ((j:Int)+1)=((j+1:Nat):Int):=fD;simp only[hw1];refine⟨⟨j+1,_,_,_,_,_,_,_,_,_,_,_,_,_,_,_,_,_,_,_,_,_,ae,hF,rfl⟩,?_⟩;simp[muI];omega
    .intro hjl;obtain rfl:j=b:=aoN;clear hjl
     co_go p_ PF.rely hF (co_quiet p_)
     co_apply opsC_call p_ rfl ax rfl
     .walk_nrm;exact hx _ _ hmb
     rintro v w' ⟨rfl,hs⟩;replace hF:PF Wg C n B Cl w N2 N3 f (j+j) w':=hs.elim (λe=>e▸hF) (λr=>hF.rely r);clear hs;walk_nrm;co_op PF.rely hF (co_quiet p_);co_apply aX p_;co_then;have hk2:k=7\/k<7:=ae
     have hjj:aaQ (k+1) (j+j):=by have e:j=2^k:=hbk;show j+j=2^(k+1);rw[jE];omega
     have hwr:IntKind.i64.wrap ((j:Int)*2)=((j+j:Nat):Int):=fD
     have htx:k+1<8->tx (mul j f)=mul (j+j) f:=by intro hk3;have:=adK ⟨k,ae⟩ ⟨f,hf⟩;simp only[<-(show j=2^k from hbk),<-(show j+j=2^(k+1)from hjj)]at this;exact this
     generalize tx (mul j f)=fa at htx⊢
     co_go p_ PF.rely hF (co_quiet p_)
     refine⟨⟨k+1,j+j,fa,_,_,_,_,_,_,_,_,_,_,_,_,_,_,_,_,_,_,_,_,_,_,_,ae,hjj,htx,hF,rfl⟩,?_⟩;simp[muO];omega
  .intro hlt
   obtain rfl:k=8:=by
    have:=iG hlt;rcases aT k 8 with h|h
    .have h2:∀k:Fin 8,2^k.val<256:=au;have:=h2 ⟨k,h⟩;exact aq0
    .omega
   obtain rfl:b=256:=hbk
   co_go p_ PF.rely hF (co_quiet p_)
   co_apply opsC_cons rfl ax;intro w₁ r;replace hF:=hF.rely r;clear r;have hz:Tryz.zeroCells209.size=256:=aoI;obtain⟨T,hT,hTs,hT1⟩:∃T,yt f 256=T/\T.size=256/\∀v∈T,v.oneCell'=true:=⟨_,rfl,tH f _,FT f _⟩;have h3:=hF.h3;rw[hT]at h3;rw[Na rfl rfl (FQ h3 hTs)];simp only[uponK_value];refine⟨?_,?_⟩
   .unfold listed;rw[Y0 rfl rfl];exact su (.inl hF.m3) (hF.bs.lt hF.m3) (λe he=>Pe h3 hTs e (mem_seen he))
   clear h3;walk_nrm;co_apply opsC_cons rfl ax;intro w₁ r;replace hF:=hF.rely r;clear r;have hrun:=JC (c':=T) hF.h2 hz hTs hT1;rw[JB (v:=.agg T) rfl rfl rfl hrun];simp only[uponK_skip];refine⟨?_,?_⟩
   .unfold listed;rw[Nb (v:=.agg T) rfl rfl rfl];exact adL hF.m2 (hF.ne0 h0).1 (hF.bs.lt hF.m2) (λe he=>Nc (c':=T) hF.h2 hz hTs hT1 e (mem_seen he))
   clear hrun;have hE:PE Wg C n B Cl w N2 f (World.setRow w₁ N2 T):=⟨hF.bs.row _ _,Y1 hF.ex h0 hF.lo2 _,rD (w:=w₁) (w':=World.setRow w₁ N2 _) rfl h_ hF.m2,by rw[hT];exact JD _ hF.h2⟩;walk_nrm;co_apply aX p_;co_then;co_apply wpC_ret p_;exact⟨rfl,N2,rfl,hE⟩
