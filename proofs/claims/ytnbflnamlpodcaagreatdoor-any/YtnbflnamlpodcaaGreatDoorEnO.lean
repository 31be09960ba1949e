import Derived.Shelf.Abstract
import Derived.OwnWalkIn
import Derived.LoopNIn
import Derived.LoopIn
import Derived.Sort.QuietIn
import Derived.RangeFuncNested
import Derived.Test.YtnbflnamlpodcaaGreatDoorEnB
set_option maxHeartbeats 8000000
set_option maxRecDepth 100000
namespace Go.Proofs.Y
open Go.RowKit Go.Deep Go.Shelf
attribute [local go_sem] Oper.semAt_some
structure KpC(n₀ sb nb:Nat)(A B:World):Prop where
 below:Below n₀ A B
 s:B.heap[sb]?=A.heap[sb]?
 n:B.heap[nb]?=A.heap[nb]?
def P6(b off len c k:Nat):Value:=.slice (some ⟨b,off+k*c,none⟩) (min c (len-k*c)) (min c (len-k*c))
abbrev FrK(c len:Nat):={k:Nat//k*c<len}
end Go.Proofs.Y
namespace Go.Proofs.Y
open Go.RowKit Go.Deep Go.Shelf
attribute [local go_sem] Oper.semAt_some
theorem OwnB.set{B lb:Nat}{w:World}{v u:Value}{l:List UInt8}(h:OwnB B w v l)(hL:Boxed w lb 34 u)(v':Value):OwnB B (w.setCell ⟨lb,0,none⟩ v') v l:=
 World.ownsRow.kept h (grownBy_setCell' w lb v') (.inr (hL.not_row au h).symm)
theorem qf.ak3{w:World}{b lb:Nat}{cs:List Value}{t:TypeId}(h:qf w b cs t)(hne:b≠lb)(v:Value):qf (w.setCell ⟨lb,0,none⟩ v) b cs t:=
 (bG _ _ _ b hne).trans h
def LL(M:List UInt8)(c:Nat)(qx:List UInt8){len:Nat}(pre:List (FrK c len)):List UInt8:=M++pre.flatMap λx=>yg c qx x.1
theorem aeQ(M:List UInt8)(c:Nat)(qx:List UInt8){len:Nat}(pre:List (FrK c len))(n:Nat)(h:pre.map Subtype.val=List.range n):LL M c qx pre=M++rU c qx n:=by unfold LL rU;rw[<-h,List.flatMap_map]
theorem Rf(c:Nat)(qx:List UInt8)(k:Nat):(yg c qx k).length<=c+8:=by
 unfold yg;rw[rY];have:(part qx (k*c) (min c (qx.length-k*c))).length<=min c (qx.length-k*c):=by unfold part;exact List.length_take_le _ _
 omega
theorem LP(M:List UInt8)(c:Nat)(qx:List UInt8){len:Nat}:∀pre:List (FrK c len),(LL M c qx pre).length<=M.length+pre.length*(c+8)
 |[]=>by simp[LL]
 |x::pre=>by have h1:=LP M c qx pre;have h2:=Rf c qx x.1;simp only[LL,List.flatMap_cons,aQ,bM]at h1⊢;rw[jZ,lU];omega
end Go.Proofs.Y
namespace Go.Proofs.Y
open Go.RowKit Go.Deep Go.Lf Go.Conc
def gRd:Code->Code
 | .rangeFunc _ _ _ c=>c
 |c=>c
def gAs:Code->Code
 | .rangeFunc _ _ c _=>c
 |c=>c
section
variable {X:Nat->Prop}{Y:Nat->Option Obj}{D:Nat->World->Array Event->Prop}{Stop:Goroutine->World->Prop}{v:World}{cs:List Frame}{LQ:Frame}
noncomputable def aeR:Code:=Tryz.f55.body.getD .skip
theorem sfH:∃fn,Tryz.prog.funcs[55]?=some fn:=⟨_,Tryz.func55⟩
theorem ajE(hD:uo X D)(ba:Option Addr)(len cap c:Nat)(hc:1<=c)
  (hnext:∀w,qH X Y w ((v.alloc (.cells #[.slice ba len cap] 34)).alloc (.cells #[.int .i64 (c:Int)] 3))->ru Tryz.prog D Stop (G (LQ.finish (.func (.func 99) #[] #[.pointer (some ⟨v.heap.size,0,none⟩),.pointer (some ⟨v.heap.size+1,0,none⟩)])) cs) w):
  qR Tryz.prog X Y D Stop none [] 55 (LQ::cs) [.code aeR] (#[.slice ba len cap,.int .i64 (c:Int)]++Array.replicate 7 undef) v:=by
 unfold aeR;simp only[Tryz.f55,aB,cu,b_,bV,bY,bf,aW];refine qw hD (rG qI hD ag sfH λR hR τ d=>?_);go_wp2;change qR _ _ _ _ _ _ _ _ _ _ _ ((v.alloc (.cells #[.slice ba len cap] 34)).alloc (.cells #[.int .i64 (c:Int)] 3))
 have hN:((v.alloc (.cells #[.slice ba len cap] 34)).alloc (.cells #[.int .i64 (c:Int)] 3)).cell? ⟨v.heap.size+1,0,none⟩=some (.int .i64 (c:Int)):=by have:=(Boxed.new (v.alloc (.cells #[.slice ba len cap] 34)) 3 (.int .i64 (c:Int))).cell;rw[lL]at this;exact this
 generalize(v.alloc (.cells #[.slice ba len cap] 34)).alloc (.cells #[.int .i64 (c:Int)] 3)=W at hN hnext⊢;have hnc:¬((c:Int)<1):=ae;refine qw hD (qw hD (rG qI hD ag sfH λR hR τ d=>?_));have cN:({W with tape:=τ,drawn:=d}:World).cell? ⟨v.heap.size+1,0,none⟩=some (.int .i64 (c:Int)):=hN;go_wp2;change qR _ _ _ _ _ _ _ _ _ _ _ W;refine zA (b:=false) hD ai (Hg hD (qw hD (rG qI hD ag sfH λR hR τ d=>?_)));go_wp2;change qR _ _ _ _ _ _ _ _ _ _ _ W;refine F5 (a:=⟨_,[]⟩) hD rfl Tryz.func55 (λτ d=>lK (fn:=Tryz.f55) (t:=4) rfl _ _ _) ?_;exact hnext
end
noncomputable def Iq:Code:=Tryz.f99.body.getD .skip
noncomputable def zt:Code:=Lc (Lc (qo Iq))
noncomputable def qk1:{x:Array Oper//x=sN (qG (qG zt))}:=⟨_,by(simp only[Iq,zt,Lc,qG,qo,sN,Tryz.f99,aB];rfl)⟩
noncomputable def qk2:{x:Array Oper//x=sN (qo (qo zt))}:=⟨_,by(simp only[Iq,zt,Lc,qo,sN,Tryz.f99,aB];rfl)⟩
noncomputable def qk3:{x:Array Oper//x=sN (qG (Lc (qG (qo zt))))}:=⟨_,by(simp only[Iq,zt,Lc,qG,qo,sN,Tryz.f99,aB];rfl)⟩
noncomputable def qk4:{x:Array Oper//x=sN (qG (qo (Lc (qG (qo zt)))))}:=⟨_,by(simp only[Iq,zt,Lc,qG,qo,sN,Tryz.f99,aB];rfl)⟩
noncomputable def kO1:Array Oper:=qk1.1
noncomputable def kO2:Array Oper:=qk2.1
noncomputable def kO3:Array Oper:=qk3.1
noncomputable def WY:Array Oper:=qk4.1
theorem WZ:zt=.seq (.seq (.region 1 kO1 false) (.cond (.tmp 9) .skip (.exit 0))) (.seq (.block 1 (.seq (.region 3 kO3 true) (.seq (.region 4 WY false) (.cond (.tmp 30) .ret .skip)))) (.region 2 kO2 false)):=ag
theorem aeS:Iq=.seq (.region 0 (sN (qG Iq)) false) (.block 0 (.loop zt)):=ag
theorem aeT:WY.size=12:=ag
theorem sfK:∃fn,Tryz.prog.funcs[99]?=some fn:=⟨_,Tryz.func99⟩
def TKi(l sb nb:Nat)(x:Int)(T:Array Value):Prop:=∃f:Nat->Value,T=#[.func (.yield l) #[] #[],.pointer (some ⟨sb,0,none⟩),.pointer (some ⟨nb,0,none⟩),f 3,.int .i64 x,f 5,f 6,f 7,f 8,f 9,f 10,f 11,f 12,f 13,f 14,f 15,f 16,f 17,f 18,f 19,f 20,f 21,f 22,f 23,f 24,f 25,f 26,f 27,f 28,f 29,f 30]
theorem aiv{l sb nb:Nat}{x:Int}{T:Array Value}(h:T=#[.func (.yield l) #[] #[],.pointer (some ⟨sb,0,none⟩),.pointer (some ⟨nb,0,none⟩),T.getD 3 undef,.int .i64 x,T.getD 5 undef,T.getD 6 undef,T.getD 7 undef,T.getD 8 undef,T.getD 9 undef,T.getD 10 undef,T.getD 11 undef,T.getD 12 undef,T.getD 13 undef,T.getD 14 undef,T.getD 15 undef,T.getD 16 undef,T.getD 17 undef,T.getD 18 undef,T.getD 19 undef,T.getD 20 undef,T.getD 21 undef,T.getD 22 undef,T.getD 23 undef,T.getD 24 undef,T.getD 25 undef,T.getD 26 undef,T.getD 27 undef,T.getD 28 undef,T.getD 29 undef,T.getD 30 undef]):TKi l sb nb x T:=⟨λi=>T.getD i undef,h⟩
def TK(l sb nb p:Nat)(T:Array Value):Prop:=TKi l sb nb ((p:Nat):Int) T
def TK5(l sb nb p m:Nat)(T:Array Value):Prop:=∃f:Nat->Value,T=#[.func (.yield l) #[] #[],.pointer (some ⟨sb,0,none⟩),.pointer (some ⟨nb,0,none⟩),f 3,.int .i64 ((p:Nat):Int),.int .i64 ((m:Nat):Int),f 6,f 7,f 8,f 9,f 10,f 11,f 12,f 13,f 14,f 15,f 16,f 17,f 18,f 19,f 20,f 21,f 22,f 23,f 24,f 25,f 26,f 27,f 28,f 29,f 30]
theorem aeU{l sb nb p m:Nat}{T:Array Value}(h:T=#[.func (.yield l) #[] #[],.pointer (some ⟨sb,0,none⟩),.pointer (some ⟨nb,0,none⟩),T.getD 3 undef,.int .i64 ((p:Nat):Int),.int .i64 ((m:Nat):Int),T.getD 6 undef,T.getD 7 undef,T.getD 8 undef,T.getD 9 undef,T.getD 10 undef,T.getD 11 undef,T.getD 12 undef,T.getD 13 undef,T.getD 14 undef,T.getD 15 undef,T.getD 16 undef,T.getD 17 undef,T.getD 18 undef,T.getD 19 undef,T.getD 20 undef,T.getD 21 undef,T.getD 22 undef,T.getD 23 undef,T.getD 24 undef,T.getD 25 undef,T.getD 26 undef,T.getD 27 undef,T.getD 28 undef,T.getD 29 undef,T.getD 30 undef]):TK5 l sb nb p m T:=⟨λi=>T.getD i undef,h⟩
section
variable {X:Nat->Prop}{Y:Nat->Option Obj}{D:Nat->World->Array Event->Prop}{Stop:Goroutine->World->Prop}{v:World}{cs:List Frame}{LQ:Frame}
theorem ahz(hD:uo X D)(l sb nb b off len cap c:Nat)(hc:1<=c)(hc2:c<=65536)(hlen:len<=1000000)(hcap:len<=cap)(ba:Option Addr)(hba:0<len->ba=some ⟨b,off,none⟩)(r:Loop)(hps:r.params.size=1)(hO:P7 X Y l)
  (Inv:Nat->World->Prop) (hI:∀j v,Inv j v->Boxed v sb 34 (.slice ba len cap)/\Boxed v nb 3 (.int .i64 (c:Int))/\v.heap[l]?=some (.loop r)) (_amj:∀j (v:World) τ d,Inv j v->Inv j {v with tape:=τ,drawn:=d})
  (round:∀(j:Nat)(v:World)(LQ:Frame)(cs:List Frame),j*c<len->Inv j v->(∀v',Inv (j+1) v'->∀w,qH X Y w v'->ru Tryz.prog D Stop (G (LQ.finish (.bool true)) cs) w)->
   qR Tryz.prog X Y D Stop (some l) [] r.fn (LQ::cs) [.code r.assign,.beginRound,.code r.body] ((r.params.zip #[P6 b off len c j]).foldl (λtmps (t,a)=>tmps.setIfInBounds t a) r.tmps) v)
  (done:∀v,Inv (Fg c len) v->∀w,qH X Y w v->ru Tryz.prog D Stop (G (LQ.finish (.tuple #[])) cs) w):
  ∀(q j:Nat)(T:Array Value)(v:World),j+q=Fg c len->TK l sb nb (j*c) T->Inv j v->qR Tryz.prog X Y D Stop none [] 99 (LQ::cs) [.code zt,.inLoop zt,.inBlock 0] T v:=by
 intro q
 induction q with
 |zero=>
  intro j T v hj ⟨f,hT⟩ hinv;obtain rfl:j=Fg c len:=ae;subst hT;obtain⟨hs,hn,hl⟩:=hI _ _ hinv;have hge:¬(Fg c len*c<len):=λh=>by have:=(P8 hc).2 h;omega
  have hnl:¬(((Fg c len*c:Nat):Int)<(len:Int)):=ae;generalize Fg c len*c=p at*;rw[WZ];refine qw hD (qw hD (rG qI hD ag sfK λR hR τ d=>?_));have cS:=Boxed.cell (W:={v with tape:=τ,drawn:=d}) hs;simp only[kO1,qk1];go_wp2;change qR _ _ _ _ _ _ _ _ _ _ _ v;refine zA (b:=false) hD ai (S9 hD rfl ?_);exact ab_ hD Tryz.func99 (λτ d=>results_none (fn:=Tryz.f99) rfl _ _ _) (done v hinv)
 |succ q ih=>
  intro j T v hj ⟨f,hT⟩ hinv;subst hT;obtain⟨hs,hn,hl⟩:=hI _ _ hinv;have hlt:j*c<len:=(P8 hc).1 ae;have hk1:Hid ((j+1)*c=j*c+c):=by show _=_;rw[jZ,lU]
  have hrd:=λLQ cs=>round j v LQ cs hlt hinv
  obtain rfl:=hba ae;unfold P6 at hrd;generalize j*c=p at*;have hlt':(p:Int)<(len:Int):=ae;obtain⟨m,em⟩:∃m,min c (len-p)=m:=⟨_,rfl⟩;rw[em]at hrd;have hm:m<=c/\m<=len-p/\1<=m:=ae;have hwr:IntKind.i64.wrap ((p:Int)+(m:Int))=(p:Int)+(m:Int):=fD;have htn:((p:Int)+(m:Int)).toNat=p+m:=ae
  have key:∀T,TK5 l sb nb p m T->qR Tryz.prog X Y D Stop none [] 99 (LQ::cs) [.code (.seq (.region 4 WY false) (.cond (.tmp 30) .ret .skip)),.inBlock 1,.code (.region 2 kO2 false),.inLoop zt,.inBlock 0] T v:=by
   rintro T ⟨f,hT⟩;subst hT;refine qw hD (yI hD ?_);rw[aeT];simp only[List.range,List.range.loop];refine qm qI hD (.func (.yield l) #[] #[]) fJ rfl ag (λz _=>aI) ?_;walk_nrm;refine qm qI hD (.slice (some ⟨b,off,none⟩) len cap) fJ rfl ag (λz hz=>by have cS:=Boxed.cell (W:=z) (show z.heap[sb]?=_ by rw[hz];exact hs);go_simp) ?_;walk_nrm;refine qm qI hD (.int .i64 (p:Int)) fJ rfl ag (λz _=>aI) ?_;walk_nrm;refine qm qI hD (.int .i64 (p:Int)) fJ rfl ag (λz _=>aI) ?_;walk_nrm;refine qm qI hD (.int .i64 (m:Int)) fJ rfl ag (λz _=>aI) ?_;walk_nrm;refine qm qI hD (.int .i64 ((p:Int)+(m:Int))) fJ rfl ag (λz _=>aI) ?_;walk_nrm;refine qm qI hD (.int .i64 (p:Int)) fJ rfl ag (λz _=>aI) ?_;walk_nrm;refine qm qI hD (.int .i64 (m:Int)) fJ rfl ag (λz _=>aI) ?_;walk_nrm;refine qm qI hD (.int .i64 ((p:Int)+(m:Int))) fJ rfl ag (λz _=>aI) ?_;walk_nrm
   refine qm qI hD (.slice (some ⟨b,off+p,none⟩) m m) fJ rfl ag (λz _=>by go_simp;rw[aj ae,aj ae,ah ae]) ?_
   walk_nrm;refine Zt hD (t:=19) (vs:=#[.slice (some ⟨b,off+p,none⟩) m m]) fJ rfl ax rfl fC hl hO (by rw[hps];rfl) ?_;refine hrd _ _ λv' hinv'=>?_
   obtain⟨hs',hn',hl'⟩:=hI _ _ hinv';rw[uD fJ];show qR _ _ _ _ _ _ _ _ _ _ _ _;walk_nrm;refine qm qI hD (.bool false) fJ rfl ag (λz _=>aI) ?_;walk_nrm;refine r_ hD (zA (b:=false) hD ai (Hg hD (Ec hD (rG qI hD ag sfK λR hR τ d=>?_))));have cN:=Boxed.cell (W:={v' with tape:=τ,drawn:=d}) hn';simp only[kO2,qk2];go_wp2;change qR _ _ _ _ _ _ _ _ _ _ _ v';refine Nk hD (ih (j+1) _ v' ae ?_ hinv');rw[hk1.out];unfold TK;rw[Int.natCast_add];exact aiv rfl
  rw[show[Item.code zt,Item.inLoop zt,Item.inBlock 0]=[Item.code (.seq (.seq (.region 1 kO1 false) (.cond (.tmp 9) .skip (.exit 0))) (.seq (.block 1 (.seq (.region 3 kO3 true) (.seq (.region 4 WY false) (.cond (.tmp 30) .ret .skip)))) (.region 2 kO2 false))),Item.inLoop zt,Item.inBlock 0]by rw[<-WZ]];refine qw hD (qw hD (rG qI hD ag sfK λR hR τ d=>?_));have cS:=Boxed.cell (W:={v with tape:=τ,drawn:=d}) hs;simp only[kO1,qk1];go_wp2;change qR _ _ _ _ _ _ _ _ _ _ _ v;refine zA (b:=true) hD ai (Hg hD (qw hD (yw hD (qw hD (rG qI hD ag sfK λR hR τ d=>?_)))));clear cS;have cS:=Boxed.cell (W:={v with tape:=τ,drawn:=d}) hs;have cN:=Boxed.cell (W:={v with tape:=τ,drawn:=d}) hn;have hkey:∀n T,TK5 l sb nb p m T->R ⟨T,[]⟩ (World.drewN {v with tape:=τ,drawn:=d} n):=λn T hT=>hR _ _ (key T hT)
  simp only[kO3,qk3];clear key hR hrd ih round done hI _amj hinv;generalize({v with tape:=τ,drawn:=d}:World)=vv at cS cN hkey⊢;rcases aT (len-p) c with q2|q2
  .obtain rfl:m=len-p:=ae;go_wp2
   go_quiet (fail)
   exact⟨rfl,rfl,hkey _ _ (aeU rfl)⟩
  .obtain rfl:m=c:=ae;go_wp2
   go_quiet (fail)
   exact⟨rfl,rfl,hkey _ _ (aeU rfl)⟩
theorem U4(hD:uo X D)(l sb nb:Nat)(h:∀T,TK l sb nb 0 T->qR Tryz.prog X Y D Stop none [] 99 cs [.code zt,.inLoop zt,.inBlock 0] T v):
  qR Tryz.prog X Y D Stop none [] 99 cs [.code Iq] (#[.func (.yield l) #[] #[]]++#[.pointer (some ⟨sb,0,none⟩),.pointer (some ⟨nb,0,none⟩)]++Array.replicate 28 undef) v:=by
 rw[aeS];simp only[cu,b_,bV,bY,bf,aW];refine qw hD (rG qI hD ag sfK λR hR τ d=>?_);unfold Iq;simp only[qG,sN,Tryz.f99,aB];go_wp2;change qR _ _ _ _ _ _ _ _ _ _ _ v;exact yw hD (Hl hD (h _ (aiv rfl)))
