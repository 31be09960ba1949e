import Derived.Shelf.Abstract
import Derived.OwnWalkIn
import Derived.LoopNIn
import Derived.LoopIn
import Derived.Sort.QuietIn
import Derived.RangeFuncNested
import Derived.Test.YtnbflnamlpodcaaGreatDoorEnB
set_option maxHeartbeats 8000000
set_option maxRecDepth 100000
namespace Go.Proofs.Y
open Go.Proofs.Tryz
open Go.RowKit Go.Deep Go.Shelf
attribute [local go_sem] Oper.semAt_some
structure KpC(n₀ sb nb:Nat)(A B:World):Prop where
 below:Below n₀ A B
 s:B.heap[sb]?=A.heap[sb]?
 n:B.heap[nb]?=A.heap[nb]?
def UG(b off len c k:Nat):Value:=.slice (some ⟨b,off+k*c,none⟩) (min c (len-k*c)) (min c (len-k*c))
abbrev FrK(c len:Nat):={k:Nat//k*c<len}
end Go.Proofs.Y
namespace Go.Proofs.Y
open Go.Proofs.Tryz
open Go.RowKit Go.Deep Go.Shelf
attribute [local go_sem] Oper.semAt_some
theorem rG.set{B lb:Nat}{w:World}{v u:Value}{l:List UInt8}(h:rG B w v l)(hL:Boxed w lb 34 u)(v':Value):rG B (w.setCell ⟨lb,0,none⟩ v') v l:=
 World.ownsRow.kept h (grownBy_setCell' w lb v') (.inr (hL.not_row au h).symm)
theorem qf.aqe{w:World}{b lb:Nat}{cs:List Value}{t:TypeId}(h:qf w b cs t)(hne:b≠lb)(v:Value):qf (w.setCell ⟨lb,0,none⟩ v) b cs t:=
 (bF _ _ _ b hne).trans h
def LL(M:List UInt8)(c:Nat)(qy:List UInt8){len:Nat}(pre:List (FrK c len)):List UInt8:=M++pre.flatMap λx=>xK c qy x.1
theorem aiN(M:List UInt8)(c:Nat)(qy:List UInt8){len:Nat}(pre:List (FrK c len))(n:Nat)(h:pre.map Subtype.val=List.range n):LL M c qy pre=M++rO c qy n:=by unfold LL rO;rw[<-h,List.flatMap_map]
theorem V_(c:Nat)(qy:List UInt8)(k:Nat):(xK c qy k).length<=c+8:=by
 unfold xK;rw[sO];have:(part qy (k*c) (min c (qy.length-k*c))).length<=min c (qy.length-k*c):=by unfold part;exact List.length_take_le _ _
 omega
theorem PY(M:List UInt8)(c:Nat)(qy:List UInt8){len:Nat}:∀pre:List (FrK c len),(LL M c qy pre).length<=M.length+pre.length*(c+8)
 |[]=>by simp[LL]
 |x::pre=>by have h1:=PY M c qy pre;have h2:=V_ c qy x.1;simp only[LL,List.flatMap_cons,aS,bQ]at h1⊢;rw[kF,l9];omega
end Go.Proofs.Y
namespace Go.Proofs.Y
open Go.Proofs.Tryz
open Go.RowKit Go.Deep Go.Lf Go.Conc
def gRd:Code->Code
 | .rangeFunc _ _ _ c=>c
 |c=>c
def gAs:Code->Code
 | .rangeFunc _ _ c _=>c
 |c=>c
section
variable {X:Nat->Prop}{Y:Nat->Option Obj}{D:Nat->World->Array Event->Prop}{Stop:Goroutine->World->Prop}{v:World}{cs:List Frame}{PZ:Frame}
noncomputable def aiO:Code:=Tryz.f55.body.getD .skip
theorem sfH:∃fn,prog.funcs[55]?=some fn:=⟨_,func55⟩
theorem aor(hD:vw X D)(ba:Option Addr)(len cap c:Nat)(hc:1<=c)
  (qH:∀w,qL X Y w ((v.alloc (.cells #[.slice ba len cap] 34)).alloc (.cells #[.int .i64 (c:Int)] 3))->rV prog D Stop (G (PZ.finish (.func (.func 99) #[] #[.pointer (some ⟨v.heap.size,0,none⟩),.pointer (some ⟨v.heap.size+1,0,none⟩)])) cs) w):
  rD prog X Y D Stop none [] 55 (PZ::cs) [.code aiO] (#[.slice ba len cap,.int .i64 (c:Int)]++Array.replicate 7 undef) v:=by
 unfold aiO;simp only[Tryz.f55,aB,cu,b_,bU,bY,bg,aV];refine qx hD (rY qK hD ag sfH λR hR τ d=>?_);go_wp2;change rD _ _ _ _ _ _ _ _ _ _ _ ((v.alloc (.cells #[.slice ba len cap] 34)).alloc (.cells #[.int .i64 (c:Int)] 3))
 have hN:((v.alloc (.cells #[.slice ba len cap] 34)).alloc (.cells #[.int .i64 (c:Int)] 3)).cell? ⟨v.heap.size+1,0,none⟩=some (.int .i64 (c:Int)):=by have:=(Boxed.new (v.alloc (.cells #[.slice ba len cap] 34)) 3 (.int .i64 (c:Int))).cell;rw[lX]at this;exact this
 generalize(v.alloc (.cells #[.slice ba len cap] 34)).alloc (.cells #[.int .i64 (c:Int)] 3)=W at hN qH⊢;have hnc:¬((c:Int)<1):=ae;refine qx hD (qx hD (rY qK hD ag sfH λR hR τ d=>?_));have cN:({W with tape:=τ,drawn:=d}:World).cell? ⟨v.heap.size+1,0,none⟩=some (.int .i64 (c:Int)):=hN;go_wp2;change rD _ _ _ _ _ _ _ _ _ _ _ W;refine yI (b:=false) hD ai (F9 hD (qx hD (rY qK hD ag sfH λR hR τ d=>?_)));go_wp2;change rD _ _ _ _ _ _ _ _ _ _ _ W;refine Jd (a:=⟨_,[]⟩) hD rfl func55 (λτ d=>lV (fn:=Tryz.f55) (t:=4) rfl _ _ _) ?_;exact qH
end
noncomputable def Ls:Code:=Tryz.f99.body.getD .skip
noncomputable def A_:Code:=Pg (Pg (qo Ls))
noncomputable def qk1:{x:Array Oper//x=uk (qJ (qJ A_))}:=⟨_,by(simp only[Ls,A_,Pg,qJ,qo,uk,Tryz.f99,aB];rfl)⟩
noncomputable def qk2:{x:Array Oper//x=uk (qo (qo A_))}:=⟨_,by(simp only[Ls,A_,Pg,qo,uk,Tryz.f99,aB];rfl)⟩
noncomputable def qk3:{x:Array Oper//x=uk (qJ (Pg (qJ (qo A_))))}:=⟨_,by(simp only[Ls,A_,Pg,qJ,qo,uk,Tryz.f99,aB];rfl)⟩
noncomputable def qk4:{x:Array Oper//x=uk (qJ (qo (Pg (qJ (qo A_)))))}:=⟨_,by(simp only[Ls,A_,Pg,qJ,qo,uk,Tryz.f99,aB];rfl)⟩
noncomputable def kO1:Array Oper:=qk1.1
noncomputable def kO2:Array Oper:=qk2.1
noncomputable def kO3:Array Oper:=qk3.1
noncomputable def kO4:Array Oper:=qk4.1
theorem aaZ:A_=.seq (.seq (.region 1 kO1 false) (.cond (.tmp 9) .skip (.exit 0))) (.seq (.block 1 (.seq (.region 3 kO3 true) (.seq (.region 4 kO4 false) (.cond (.tmp 30) .ret .skip)))) (.region 2 kO2 false)):=ag
theorem aiP:Ls=.seq (.region 0 (uk (qJ Ls)) false) (.block 0 (.loop A_)):=ag
theorem aiQ:kO4.size=12:=ag
theorem sfK:∃fn,prog.funcs[99]?=some fn:=⟨_,func99⟩
def TKi(l sb nb:Nat)(x:Int)(T:Array Value):Prop:=∃f:Nat->Value,T=#[.func (.yield l) #[] #[],.pointer (some ⟨sb,0,none⟩),.pointer (some ⟨nb,0,none⟩),f 3,.int .i64 x,f 5,f 6,f 7,f 8,f 9,f 10,f 11,f 12,f 13,f 14,f 15,f 16,f 17,f 18,f 19,f 20,f 21,f 22,f 23,f 24,f 25,f 26,f 27,f 28,f 29,f 30]
theorem am2{l sb nb:Nat}{x:Int}{T:Array Value}(h:T=#[.func (.yield l) #[] #[],.pointer (some ⟨sb,0,none⟩),.pointer (some ⟨nb,0,none⟩),T.getD 3 undef,.int .i64 x,T.getD 5 undef,T.getD 6 undef,T.getD 7 undef,T.getD 8 undef,T.getD 9 undef,T.getD 10 undef,T.getD 11 undef,T.getD 12 undef,T.getD 13 undef,T.getD 14 undef,T.getD 15 undef,T.getD 16 undef,T.getD 17 undef,T.getD 18 undef,T.getD 19 undef,T.getD 20 undef,T.getD 21 undef,T.getD 22 undef,T.getD 23 undef,T.getD 24 undef,T.getD 25 undef,T.getD 26 undef,T.getD 27 undef,T.getD 28 undef,T.getD 29 undef,T.getD 30 undef]):TKi l sb nb x T:=⟨λi=>T.getD i undef,h⟩
def TK(l sb nb p:Nat)(T:Array Value):Prop:=TKi l sb nb ((p:Nat):Int) T
def TK5(l sb nb p m:Nat)(T:Array Value):Prop:=∃f:Nat->Value,T=#[.func (.yield l) #[] #[],.pointer (some ⟨sb,0,none⟩),.pointer (some ⟨nb,0,none⟩),f 3,.int .i64 ((p:Nat):Int),.int .i64 ((m:Nat):Int),f 6,f 7,f 8,f 9,f 10,f 11,f 12,f 13,f 14,f 15,f 16,f 17,f 18,f 19,f 20,f 21,f 22,f 23,f 24,f 25,f 26,f 27,f 28,f 29,f 30]
theorem aiR{l sb nb p m:Nat}{T:Array Value}(h:T=#[.func (.yield l) #[] #[],.pointer (some ⟨sb,0,none⟩),.pointer (some ⟨nb,0,none⟩),T.getD 3 undef,.int .i64 ((p:Nat):Int),.int .i64 ((m:Nat):Int),T.getD 6 undef,T.getD 7 undef,T.getD 8 undef,T.getD 9 undef,T.getD 10 undef,T.getD 11 undef,T.getD 12 undef,T.getD 13 undef,T.getD 14 undef,T.getD 15 undef,T.getD 16 undef,T.getD 17 undef,T.getD 18 undef,T.getD 19 undef,T.getD 20 undef,T.getD 21 undef,T.getD 22 undef,T.getD 23 undef,T.getD 24 undef,T.getD 25 undef,T.getD 26 undef,T.getD 27 undef,T.getD 28 undef,T.getD 29 undef,T.getD 30 undef]):TK5 l sb nb p m T:=⟨λi=>T.getD i undef,h⟩
section
variable {X:Nat->Prop}{Y:Nat->Option Obj}{D:Nat->World->Array Event->Prop}{Stop:Goroutine->World->Prop}{v:World}{cs:List Frame}{PZ:Frame}
theorem al3(hD:vw X D)(l sb nb b off len cap c:Nat)(hc:1<=c)(VD:c<=65536)(hlen:len<=1000000)(BD:len<=cap)(ba:Option Addr)(hba:0<len->ba=some ⟨b,off,none⟩)(r:Loop)(hps:r.params.size=1)(hO:UH X Y l)
  (Inv:Nat->World->Prop) (hI:∀j v,Inv j v->Boxed v sb 34 (.slice ba len cap)/\Boxed v nb 3 (.int .i64 (c:Int))/\v.heap[l]?=some (.loop r)) (_arT:∀j (v:World) τ d,Inv j v->Inv j {v with tape:=τ,drawn:=d})
  (round:∀(j:Nat)(v:World)(PZ:Frame)(cs:List Frame),j*c<len->Inv j v->(∀v',Inv (j+1) v'->∀w,qL X Y w v'->rV prog D Stop (G (PZ.finish (.bool true)) cs) w)->
   rD prog X Y D Stop (some l) [] r.fn (PZ::cs) [.code r.assign,.beginRound,.code r.body] ((r.params.zip #[UG b off len c j]).foldl (λtmps (t,a)=>tmps.setIfInBounds t a) r.tmps) v)
  (done:∀v,Inv (GI c len) v->∀w,qL X Y w v->rV prog D Stop (G (PZ.finish (.tuple #[])) cs) w):
  ∀(q j:Nat)(T:Array Value)(v:World),j+q=GI c len->TK l sb nb (j*c) T->Inv j v->rD prog X Y D Stop none [] 99 (PZ::cs) [.code A_,.inLoop A_,.inBlock 0] T v:=by
 intro q
 induction q with
 |zero=>
  intro j T v hj ⟨f,hT⟩ hinv;obtain rfl:j=GI c len:=ae;subst hT;obtain⟨hs,hn,hl⟩:=hI _ _ hinv;have VF:¬(GI c len*c<len):=λh=>by have:=(PV hc).2 h;omega
  have GH:¬(((GI c len*c:Nat):Int)<(len:Int)):=ae;generalize GI c len*c=p at*;rw[aaZ];refine qx hD (qx hD (rY qK hD ag sfK λR hR τ d=>?_));have cS:=Boxed.cell (W:={v with tape:=τ,drawn:=d}) hs;simp only[kO1,qk1];go_wp2;change rD _ _ _ _ _ _ _ _ _ _ _ v;refine yI (b:=false) hD ai (Xv hD rfl ?_);exact af6 hD func99 (λτ d=>results_none (fn:=Tryz.f99) rfl _ _ _) (done v hinv)
 |succ q ih=>
  intro j T v hj ⟨f,hT⟩ hinv;subst hT;obtain⟨hs,hn,hl⟩:=hI _ _ hinv;have qE:j*c<len:=(PV hc).1 ae;have JR:Hid ((j+1)*c=j*c+c):=by show _=_;rw[kF,l9]
  have hrd:=λPZ cs=>round j v PZ cs qE hinv
  obtain rfl:=hba ae;unfold UG at hrd;generalize j*c=p at*;have Ag:(p:Int)<(len:Int):=ae;obtain⟨m,em⟩:∃m,min c (len-p)=m:=⟨_,rfl⟩;rw[em]at hrd;have hm:m<=c/\m<=len-p/\1<=m:=ae;have VV:IntKind.i64.wrap ((p:Int)+(m:Int))=(p:Int)+(m:Int):=gV;have htn:((p:Int)+(m:Int)).toNat=p+m:=ae
  have key:∀T,TK5 l sb nb p m T->rD prog X Y D Stop none [] 99 (PZ::cs) [.code (.seq (.region 4 kO4 false) (.cond (.tmp 30) .ret .skip)),.inBlock 1,.code (.region 2 kO2 false),.inLoop A_,.inBlock 0] T v:=by
   rintro T ⟨f,hT⟩;subst hT;refine qx hD (BV hD ?_);rw[aiQ];simp only[List.range,List.range.loop];refine qw qK hD (.func (.yield l) #[] #[]) fM rfl ag (λz _=>aN) ?_;walk_nrm;refine qw qK hD (.slice (some ⟨b,off,none⟩) len cap) fM rfl ag (λz hz=>by have cS:=Boxed.cell (W:=z) (show z.heap[sb]?=_ by rw[hz];exact hs);go_simp) ?_;walk_nrm;refine qw qK hD (.int .i64 (p:Int)) fM rfl ag (λz _=>aN) ?_;walk_nrm;refine qw qK hD (.int .i64 (p:Int)) fM rfl ag (λz _=>aN) ?_;walk_nrm;refine qw qK hD (.int .i64 (m:Int)) fM rfl ag (λz _=>aN) ?_;walk_nrm;refine qw qK hD (.int .i64 ((p:Int)+(m:Int))) fM rfl ag (λz _=>aN) ?_;walk_nrm;refine qw qK hD (.int .i64 (p:Int)) fM rfl ag (λz _=>aN) ?_;walk_nrm;refine qw qK hD (.int .i64 (m:Int)) fM rfl ag (λz _=>aN) ?_;walk_nrm;refine qw qK hD (.int .i64 ((p:Int)+(m:Int))) fM rfl ag (λz _=>aN) ?_;walk_nrm
   refine qw qK hD (.slice (some ⟨b,off+p,none⟩) m m) fM rfl ag (λz _=>by go_simp;rw[aj ae,aj ae,ah ae]) ?_
   walk_nrm;refine adf hD (t:=19) (vs:=#[.slice (some ⟨b,off+p,none⟩) m m]) fM rfl ax rfl fQ hl hO (by rw[hps];rfl) ?_;refine hrd _ _ λv' anh=>?_
   obtain⟨xn,hn',Fg⟩:=hI _ _ anh;rw[wU fM];show rD _ _ _ _ _ _ _ _ _ _ _ _;walk_nrm;refine qw qK hD (.bool false) fM rfl ag (λz _=>aN) ?_;walk_nrm;refine tZ hD (yI (b:=false) hD ai (F9 hD (GN hD (rY qK hD ag sfK λR hR τ d=>?_))));have cN:=Boxed.cell (W:={v' with tape:=τ,drawn:=d}) hn';simp only[kO2,qk2];go_wp2;change rD _ _ _ _ _ _ _ _ _ _ _ v';refine QK hD (ih (j+1) _ v' ae ?_ anh);rw[JR.out];unfold TK;rw[Int.natCast_add];exact am2 rfl
  rw[show[Item.code A_,Item.inLoop A_,Item.inBlock 0]=[Item.code (.seq (.seq (.region 1 kO1 false) (.cond (.tmp 9) .skip (.exit 0))) (.seq (.block 1 (.seq (.region 3 kO3 true) (.seq (.region 4 kO4 false) (.cond (.tmp 30) .ret .skip)))) (.region 2 kO2 false))),Item.inLoop A_,Item.inBlock 0]by rw[<-aaZ]];refine qx hD (qx hD (rY qK hD ag sfK λR hR τ d=>?_));have cS:=Boxed.cell (W:={v with tape:=τ,drawn:=d}) hs;simp only[kO1,qk1];go_wp2;change rD _ _ _ _ _ _ _ _ _ _ _ v;refine yI (b:=true) hD ai (F9 hD (qx hD (zJ hD (qx hD (rY qK hD ag sfK λR hR τ d=>?_)))));clear cS;have cS:=Boxed.cell (W:={v with tape:=τ,drawn:=d}) hs;have cN:=Boxed.cell (W:={v with tape:=τ,drawn:=d}) hn;have apu:∀n T,TK5 l sb nb p m T->R ⟨T,[]⟩ (World.drewN {v with tape:=τ,drawn:=d} n):=λn T hT=>hR _ _ (key T hT)
  simp only[kO3,qk3];clear key hR hrd ih round done hI _arT hinv;generalize({v with tape:=τ,drawn:=d}:World)=vv at cS cN apu⊢;rcases aQ (len-p) c with q2|q2
  .obtain rfl:m=len-p:=ae;go_wp2
   go_quiet (fail)
   exact⟨rfl,rfl,apu _ _ (aiR rfl)⟩
  .obtain rfl:m=c:=ae;go_wp2
   go_quiet (fail)
   exact⟨rfl,rfl,apu _ _ (aiR rfl)⟩
theorem Y9(hD:vw X D)(l sb nb:Nat)(h:∀T,TK l sb nb 0 T->rD prog X Y D Stop none [] 99 cs [.code A_,.inLoop A_,.inBlock 0] T v):
  rD prog X Y D Stop none [] 99 cs [.code Ls] (#[.func (.yield l) #[] #[]]++#[.pointer (some ⟨sb,0,none⟩),.pointer (some ⟨nb,0,none⟩)]++Array.replicate 28 undef) v:=by
 rw[aiP];simp only[cu,b_,bU,bY,bg,aV];refine qx hD (rY qK hD ag sfK λR hR τ d=>?_);unfold Ls;simp only[qJ,uk,Tryz.f99,aB];go_wp2;change rD _ _ _ _ _ _ _ _ _ _ _ v;exact zJ hD (J3 hD (h _ (am2 rfl)))
