import Derived.Test.YtlghjjennhpjeaaGreatDoorCoK
import Derived.Shelf.Abstract
import Derived.OwnWalkIn
import Derived.LoopNIn
import Derived.LoopIn
import Derived.Sort.QuietIn
import Derived.RangeFuncNested
set_option maxHeartbeats 8000000
set_option maxRecDepth 100000
namespace Go.Proofs.Y
open Go.Conc Go.ConcN Go.RowKit Go.Gh Go.Conc.Lib Go.ConcR.Gen Go.ConcN.Gen
open Go.ConcR (Payload)
def LoC[qR](Wg C B b:Nat):Prop:=b<B/\b≠Wg/\b≠C/\¬qR.old b
structure FU where
 ba:Nat
 bk:Nat
 bd:Nat
 bD:Nat
 oD:Nat
 cD:Nat
 cs:List Um
 h0:Nat->aZ
def FU.cap(E:FU)(bj:Nat):YS:={ba:=E.ba,bj:=bj,bk:=E.bk,bd:=E.bd,bD:=E.bD,oD:=E.oD,cD:=E.cD}
def FU.res(E:FU)(k L t:Nat):aC:=comb (E_ ((List.range k).map (sN k t)) E.cs) (List.replicate L 0)
structure UF(E:FU)(k n L:Nat):Prop where
 k0:0<k
 k1:k<=128
 n1:n<=128
 hL:L<=140737488355328
 len:E.cs.length=k
 cl:∀c∈E.cs,Dc c.ys L/\∀y∈c.ys,y<256
structure amq[qR](Wg C B k n L:Nat)(E:FU)(w:ah):Prop where
 la:LoC Wg C B E.ba
 lk:LoC Wg C B E.bk
 ld:LoC Wg C B E.bd
 lD:LoC Wg C B E.bD
 va:w.cell? ⟨E.ba,0,none⟩=some (.slice (some ⟨C,0,none⟩) n n)
 vk:w.cell? ⟨E.bk,0,none⟩=some (.int .i64 ((k:Nat):Int))
 vd:w.cell? ⟨E.bd,0,none⟩=some (.slice (some ⟨E.bD,E.oD,none⟩) k E.cD)
 hc:∀j c,E.cs[j]?=some c->w.cell? ⟨E.bD,E.oD+j,none⟩=some (.slice c.bs L c.co)
 yf:∀c∈E.cs,LoC Wg C B c.bo/\(0<L->c.bs=some ⟨c.bo,c.oo,none⟩)/\∀i y,c.ys[i]?=some y->w.cell? ⟨c.bo,c.oo+i,none⟩=some (.int .u8 ((y:Nat):Int))
 std:∀b,b<B->b≠Wg->b≠C->w.heap[b]?=E.h0 b
theorem amq.Ag[qR]{Wg C B k n L:Nat}{E:FU}{w w₁:ah}(h:amq Wg C B k n L E w)(st0:∀b,b<B->b≠Wg->b≠C->w₁.heap[b]?=w.heap[b]?):amq Wg C B k n L E w₁:=by
 have st:∀{b:Nat},LoC Wg C B b->∀o,w₁.cell? ⟨b,o,none⟩=w.cell? ⟨b,o,none⟩:=λhb o=>by simp only[World.cell?,st0 _ hb.1 hb.2.1 hb.2.2.1]
 exact⟨h.la,h.lk,h.ld,h.lD,(st h.la _).trans h.va,(st h.lk _).trans h.vk,(st h.ld _).trans h.vd,λj c e=>(st h.lD _).trans (h.hc j c e),λc hc=>let⟨h1,h2,h3⟩:=h.yf c hc;⟨h1,h2,λi y e=>(st h1 _).trans (h3 i y e)⟩,λb h1 h2 h3=>(st0 b h1 h2 h3).trans (h.std b h1 h2 h3)⟩
section
variable [Payload][qR]{Wg C k n B L:Nat}{E:FU}
structure zW(Wg C k n B L:Nat)(E:FU)(s0:Nat)(w:ah):Prop where
 bs:Bs C B w
 pay:PayAt C n w
 low:amq Wg C B k n L E w
 sb:C<s0/\B<=s0/\s0<=w.heap.size
theorem zW.rely{s0:Nat}{w w₁:ah}(h:zW Wg C k n B L E s0 w)(r:Ro Wg C n B (λi=>¬i<n) w w₁):zW Wg C k n B L E s0 w₁:=
 ⟨h.bs.rely r,r.pay h.pay,h.low.Ag r.low,⟨h.sb.1,h.sb.2.1,bF h.sb.2.2 r.size⟩⟩
theorem zW.ex{s0:Nat}{w w₁:ah}{S:Nat->Prop}(h:zW Wg C k n B L E s0 w)(hb:Bs C B w₁)(r:Ex Wg C n B (λi=>¬i<n) S w w₁):zW Wg C k n B L E s0 w₁:=
 ⟨hb,r.pay h.pay,h.low.Ag r.low,⟨h.sb.1,h.sb.2.1,bF h.sb.2.2 r.size⟩⟩
theorem zW.base{s0:Nat}{w:ah}(h:zW Wg C k n B L E s0 w):zW Wg C k n B L E w.heap.size w:=⟨h.bs,h.pay,h.low,⟨h.bs.hC,h.bs.hB,ay _⟩⟩
structure XN(Wg C k n B L:Nat)(E:FU)(s0 bj:Nat)(vj:ai)(w:ah):Prop where
 sf:zW Wg C k n B L E s0 w
 lj:s0<=bj
 mj:qQ w bj
 hj:w.heap[bj]?=some (.cells #[vj] 3)
theorem XN.rely{s0 bj:Nat}{vj:ai}{w w₁:ah}(h:XN Wg C k n B L E s0 bj vj w)(r:Ro Wg C n B (λi=>¬i<n) w w₁):XN Wg C k n B L E s0 bj vj w₁:=⟨h.sf.rely r,h.lj,(r.yx _).2 h.mj,(r.mine _ h.mj).trans h.hj⟩
theorem zW.aes{s0:Nat}{w:ah}(h:zW Wg C k n B L E s0 w)(v:ai):XN Wg C k n B L E s0 w.heap.size v (w.alloc (.cells #[v] 3)):=
 ⟨h.ex (S:=λ_=>False) (h.bs.alloc _) (Ex.alloc h.bs.hC h.bs.hB (λ_ hb=>h.bs.lt hb) _),h.sb.2.2,zO (w:=w) (w':=w.alloc _) rfl h.bs.tg (ay _) iE,by rw[Ed]⟩
theorem XN.jC{s0 bj:Nat}{vj:ai}{w:ah}(h:XN Wg C k n B L E s0 bj vj w):bj≠C:=aw1
theorem XN.cj{s0 bj:Nat}{vj:ai}{w:ah}(h:XN Wg C k n B L E s0 bj vj w):w.cell? ⟨bj,0,none⟩=some vj/\w.frozen? ⟨bj,0,none⟩=false:=⟨by rw[cell_of w h.hj];rfl,wo w h.hj 0⟩
theorem XN.an5{s0 bj:Nat}{vj:ai}{w:ah}(h:XN Wg C k n B L E s0 bj vj w)(v:ai):XN Wg C k n B L E s0 bj v (w.setCell ⟨bj,0,none⟩ v):=
 ⟨h.sf.ex (S:=λx=>s0<=x) (h.sf.bs.set _ _) (Ex.set h.jC h.lj (by have:=h.sf.sb.2.1;have:=h.lj;show¬(bj<B/\_);omega)),h.lj,sD (w:=w) (w':=w.setCell _ _) rfl eY h.mj,heap_set w h.hj 0 v⟩
theorem zW.book{s0:Nat}{w:ah}(h:zW Wg C k n B L E s0 w){l:aC}(hl:∀b∈l,b<w.heap.size):zW Wg C k n B L E s0 (w.out (book w.heap.size l)):=
 ⟨⟨auk,h.bs.hC,h.bs.hB,λb hb=>by rw[vM]at hb;exact hl b hb⟩,h.pay,h.low.Ag (λ_ _ _ _=>rfl),h.sb⟩
theorem aoT{s0 j bj:Nat}{w:ah}(h:XN Wg C k n B L E s0 bj (.int .i64 ((j:Nat):Int)) w):WIc Wg C n B (E.cap bj) k L j E.cs (w.out (book w.heap.size [bj])):=by
 have hf:=h.sf.low
 exact⟨⟨auk,h.sf.bs.hC,h.sf.bs.hB,λb hb=>awr⟩,h.sf.pay,.inr hf.la,hf.va,.inl (.inl awq),h.cj.1,
  .inr hf.lk,hf.vk,.inr hf.ld,hf.vd,.inr hf.lD,hf.hc,λc hc=>⟨.inr (hf.yf c hc).1,(hf.yf c hc).2⟩⟩
end
def TC(E:FU)(Wg n j:Nat)(T:aH):Prop:=∃f:Nat->ai,T=#[f 0,f 1,f 2,.pointer (some ⟨E.bk,0,none⟩),f 4,f 5,f 6,.pointer (some ⟨E.bd,0,none⟩),.pointer (some ⟨E.ba,0,none⟩),.pointer (some ⟨Wg,0,none⟩),f 10,f 11,f 12,f 13,f 14,f 15,f 16,.int .i64 ((n:Nat):Int),.int .i64 ((j:Nat):Int),f 19,f 20,f 21,f 22,f 23,f 24,f 25]
theorem aji{E:FU}{Wg n j:Nat}{T:aH}(h:T=#[ae T 0,ae T 1,ae T 2,.pointer (some ⟨E.bk,0,none⟩),ae T 4,ae T 5,ae T 6,.pointer (some ⟨E.bd,0,none⟩),.pointer (some ⟨E.ba,0,none⟩),.pointer (some ⟨Wg,0,none⟩),ae T 10,ae T 11,ae T 12,ae T 13,ae T 14,ae T 15,ae T 16,.int .i64 ((n:Nat):Int),.int .i64 ((j:Nat):Int),ae T 19,ae T 20,ae T 21,ae T 22,ae T 23,ae T 24,ae T 25]):TC E Wg n j T:=⟨λi=>T.getD i undef,h⟩
def sZ:Code->Code| .seq x _=>x|c=>c
def rX:Code->Code| .seq _ y=>y|c=>c
def gIn:Code->Code| .block _ c=>c| .loop c=>c|c=>c
def zt:Code->Array Oper| .region _ o _=>o|_=>#[]
noncomputable def Bf:Code:=Tryz.f53.body.getD .skip
noncomputable def Ap:Code:=rX (rX (rX (rX Bf)))
noncomputable def Aa:Code:=gIn (gIn (rX (sZ Ap)))
noncomputable def abk:Code:=gIn (sZ (rX (rX Aa)))
noncomputable def qg4:{x:Array Oper//x=zt (sZ (sZ Ap))}:=⟨_,by(simp only[Bf,Ap,sZ,rX,zt,Tryz.f53,bf];rfl)⟩
noncomputable def og4:Array Oper:=qg4.1
noncomputable def qg5:{x:Array Oper//x=zt (sZ Aa)}:=⟨_,by(simp only[Bf,Aa,Ap,sZ,rX,gIn,zt,Tryz.f53,bf];rfl)⟩
noncomputable def og5:Array Oper:=qg5.1
noncomputable def qg6:{x:Array Oper//x=zt (sZ abk)}:=⟨_,by(simp only[Bf,abk,Aa,Ap,sZ,rX,gIn,zt,Tryz.f53,bf];rfl)⟩
noncomputable def og6:Array Oper:=qg6.1
noncomputable def qg7:{x:Array Oper//x=zt (sZ (rX abk))}:=⟨_,by(simp only[Bf,abk,Aa,Ap,sZ,rX,gIn,zt,Tryz.f53,bf];rfl)⟩
noncomputable def og7:Array Oper:=qg7.1
noncomputable def qg8:{x:Array Oper//x=zt (rX (rX abk))}:=⟨_,by(simp only[Bf,abk,Aa,Ap,sZ,rX,gIn,zt,Tryz.f53,bf];rfl)⟩
noncomputable def og8:Array Oper:=qg8.1
noncomputable def qg9:{x:Array Oper//x=zt (rX (rX (rX Aa)))}:=⟨_,by(simp only[Bf,Aa,Ap,sZ,rX,gIn,zt,Tryz.f53,bf];rfl)⟩
noncomputable def og9:Array Oper:=qg9.1
noncomputable def aqJ:{x:Array Oper//x=zt (sZ (rX Ap))}:=⟨_,by(simp only[Bf,Ap,sZ,rX,zt,Tryz.f53,bf];rfl)⟩
noncomputable def aoU:Array Oper:=aqJ.1
noncomputable def aqK:{x:Array Oper//x=zt (sZ (rX (rX Ap)))}:=⟨_,by(simp only[Bf,Ap,sZ,rX,zt,Tryz.f53,bf];rfl)⟩
noncomputable def aqL:Array Oper:=aqK.1
noncomputable def ae6:Code:=.seq (.region 11 aqL false) .ret
noncomputable def abl:Code:=.seq (.region 10 aoU false) ae6
theorem ajj:Ap=.seq (.seq (.region 4 og4 false) (.block 0 (.loop Aa))) abl:=ak
theorem abm:Aa=.seq (.region 5 og5 false) (.seq (.cond (.tmp 19) .skip (.exit 0)) (.seq (.block 1 abk) (.region 9 og9 false))):=ak
theorem amr:abk=.seq (.region 6 og6 false) (.seq (.region 7 og7 false) (.region 8 og8 false)):=ak
theorem ng4:og4.size=3:=ak
theorem ng5:og5.size=1:=ak
theorem ng6:og6.size=3:=ak
theorem ng7:og7.size=1:=ak
theorem ng8:og8.size=2:=ak
theorem ng9:og9.size=2:=ak
theorem ar8:aoU.size=1:=ak
section
variable [Payload][qR]{Wg C k n B L:Nat}{E:FU}
def KC(Wg C k n B L:Nat)(E:FU)(cs:aT)(ids:aC)(g:aI)(w:ah):Prop:=
 ∃T s0 j ops,g=G ((base 53).at ⟨T,[]⟩ (.inRegion ops []::[.code ae6])) cs/\TC E Wg n j T/\zW Wg C k n B L E s0 w/\∀x,x∈ids↔x<n
theorem KC.rely{cs:aT}{ids:aC}{g:aI}{w w₁:ah}(h:KC Wg C k n B L E cs ids g w)(r:Ro Wg C n B (λi=>¬i<n) w w₁):KC Wg C k n B L E cs ids g w₁:=by exact aya
def StC(Wg C k n B L:Nat)(E:FU)(cs:aT):Nat->aC->aI->ah->Prop
 |0,ids=>alu Tryz.prog link.tWg Wg (KC Wg C k n B L E cs) ids
 |r+1,ids=>aeN Tryz.prog link.tWg Wg C n B (· <n) (Xo C L (E.res k L)) (Sp Tryz.prog link.tWg Wg C n B (· <n) (Xo C L (E.res k L)) (KC Wg C k n B L E cs) r) ids
theorem ae7{cs:aT}(r:Nat)(ids:aC)(g:aI)(w:ah):Sp Tryz.prog link.tWg Wg C n B (· <n) (Xo C L (E.res k L)) (KC Wg C k n B L E cs) r ids g w↔∃m,Goes Tryz.prog true (Ro Wg C n B (λi=>¬i<n)) (Dg Wg C n B (λi=>¬i<n)) (StC Wg C k n B L E cs r ids) m g w:=by cases r<;>exact Iff.rfl
theorem aoV{cs:aT}:∃m,∀(T:aH)(w:ah)(ids:aC)(s0:Nat),TC E Wg n n T->zW Wg C k n B L E s0 w->(∀x,x∈ids↔x<n)->
  Goes Tryz.prog true (Ro Wg C n B (λi=>¬i<n)) (Dg Wg C n B (λi=>¬i<n)) (StC Wg C k n B L E cs 0 ids) m (G ((base 53).at ⟨T,[]⟩ (.code Aa::.inLoop Aa::.inBlock 0::[.code abl])) cs) w:=by
 co_apply Exists.intro;rintro T w ids s0 ⟨f,rfl⟩ hF CX;have E5:¬((n:Int)<(n:Int)):=ag;generalize hkk:Item.inLoop Aa::[Item.inBlock 0,Item.code abl]=kk;rw[abm]
 (co_apply aQ rfl;intro _ qI;replace hF:=zW.rely hF qI;clear qI;rw[aX];simp only[bu];refine⟨a_ qj _,?_⟩)
 (co_apply aQ rfl;intro _ qI;replace hF:=zW.rely hF qI;clear qI;rw[dW,ng5];simp only[bu,List.range,List.range.loop];refine⟨a_ qj _,?_⟩;simp only[og5,qg5])
 (co_apply aQ rfl;intro _ qI;replace hF:=zW.rely hF qI;clear qI
  refine goes_oper_k rfl rfl aB (λKq uI=>?_)
  (skip)
  go_simp
  try(unfold stored;go_simp)
  refine uI _ _ ⟨?_,?_⟩
  ·(co_quiet qj)
  clear uI Kq
  try walk_nrm)
 (co_apply aQ rfl;intro _ qI;replace hF:=zW.rely hF qI;clear qI;rw[bg];simp only[bu];refine⟨a_ qj _,?_⟩)
 (co_apply aQ rfl;intro _ qI;replace hF:=zW.rely hF qI;clear qI;rw[aX];simp only[bu];refine⟨a_ qj _,?_⟩)
 (co_apply aQ rfl;intro _ qI;replace hF:=zW.rely hF qI;clear qI)
 rw[lJ (t:=false) rfl];simp only[bu,dm,bU];refine⟨a_ qj _,?_⟩
 (co_apply aQ rfl;intro _ qI;replace hF:=zW.rely hF qI;clear qI)
 subst hkk;refine goes_exit rfl ?_;refine⟨a_ qj _,?_⟩;unfold abl
 (co_apply aQ rfl;intro _ qI;replace hF:=zW.rely hF qI;clear qI;rw[aX];simp only[bu];refine⟨a_ qj _,?_⟩)
 (co_apply aQ rfl;intro _ qI;replace hF:=zW.rely hF qI;clear qI;rw[dW,ar8];simp only[bu,List.range,List.range.loop];refine⟨a_ qj _,?_⟩;simp only[aoU,aqJ])
 (co_apply aQ rfl;intro _ qI;replace hF:=zW.rely hF qI;clear qI)
 refine goes_call rfl rfl aB rfl Nc.f_wait (nm_wait link) rfl ⟨a_ qj _,?_⟩
 walk_nrmf waitFn
 refine dC (n:=0) λw₁ hR=>?_
 replace hF:=hF.rely hR;clear hR;refine⟨rfl,_,aif Nc,_,s0,n,_,rfl,?_,hF,CX⟩;walk_nrm;exact aji rfl
theorem ams(hE:UF E k n L){cs:aT}{j:Nat}(hj:j<n)(r:Nat){m1:Nat}
  (ih:∀(T:aH)(w:ah)(ids:aC)(s0:Nat),TC E Wg n (j+1) T->zW Wg C k n B L E s0 w->(∀x,x∈ids↔x<j+1)->Goes Tryz.prog true (Ro Wg C n B (λi=>¬i<n)) (Dg Wg C n B (λi=>¬i<n)) (StC Wg C k n B L E cs r ids) m1 (G ((base 53).at ⟨T,[]⟩ (.code Aa::.inLoop Aa::.inBlock 0::[.code abl])) cs) w):
  ∃m,∀(T:aH)(w:ah)(ids:aC)(s0:Nat),TC E Wg n j T->zW Wg C k n B L E s0 w->(∀x,x∈ids↔x<j)->
   Goes Tryz.prog true (Ro Wg C n B (λi=>¬i<n)) (Dg Wg C n B (λi=>¬i<n)) (StC Wg C k n B L E cs (r+1) ids) m (G ((base 53).at ⟨T,[]⟩ (.code Aa::.inLoop Aa::.inBlock 0::[.code abl])) cs) w:=by
 obtain⟨mw,hmw⟩:=an0 (Wg:=Wg) (C:=C) (n:=n) (B:=B) k L hE.k0 hE.k1 hE.n1 hE.hL j hj;co_apply Exists.intro;rintro T w ids s0 ⟨f,rfl⟩ hF CX;replace hF:=hF.base;generalize Ai:w.heap.size=s1 at hF;clear Ai s0;have hjI:(j:Int)<(n:Int):=ag;have hn1:=hE.n1;generalize hkk:Item.inLoop Aa::[Item.inBlock 0,Item.code abl]=kk;rw[abm]
 (co_apply aQ rfl;intro _ qI;replace hF:=zW.rely hF qI;clear qI;rw[aX];simp only[bu];refine⟨a_ qj _,?_⟩)
 (co_apply aQ rfl;intro _ qI;replace hF:=zW.rely hF qI;clear qI;rw[dW,ng5];simp only[bu,List.range,List.range.loop];refine⟨a_ qj _,?_⟩;simp only[og5,qg5])
 (co_apply aQ rfl;intro _ qI;replace hF:=zW.rely hF qI;clear qI
  refine goes_oper_k rfl rfl aB (λKq uI=>?_)
  (skip)
  go_simp
  try(unfold stored;go_simp)
  refine uI _ _ ⟨?_,?_⟩
  ·(co_quiet qj)
  clear uI Kq
  try walk_nrm)
 (co_apply aQ rfl;intro _ qI;replace hF:=zW.rely hF qI;clear qI;rw[bg];simp only[bu];refine⟨a_ qj _,?_⟩)
 (co_apply aQ rfl;intro _ qI;replace hF:=zW.rely hF qI;clear qI;rw[aX];simp only[bu];refine⟨a_ qj _,?_⟩)
 (co_apply aQ rfl;intro _ qI;replace hF:=zW.rely hF qI;clear qI)
 rw[lJ (t:=true) rfl];simp only[bu,aY];refine⟨a_ qj _,?_⟩
 (co_apply aQ rfl;intro _ qI;replace hF:=zW.rely hF qI;clear qI;rw[fE];simp only[bu];refine⟨a_ qj _,?_⟩)
 (co_apply aQ rfl;intro _ qI;replace hF:=zW.rely hF qI;clear qI;rw[aX];simp only[bu];refine⟨a_ qj _,?_⟩)
 (co_apply aQ rfl;intro _ qI;replace hF:=zW.rely hF qI;clear qI;rw[lK];simp only[bu];refine⟨a_ qj _,?_⟩)
 rw[amr]
 (co_apply aQ rfl;intro _ qI;replace hF:=zW.rely hF qI;clear qI;rw[aX];simp only[bu];refine⟨a_ qj _,?_⟩)
 (co_apply aQ rfl;intro _ qI;replace hF:=zW.rely hF qI;clear qI;rw[dW,ng6];simp only[bu,List.range,List.range.loop];refine⟨a_ qj _,?_⟩;simp only[og6,qg6])
 (co_apply aQ rfl;intro _ qI;replace hF:=zW.rely hF qI;clear qI
  refine goes_oper_k rfl rfl aB (λKq uI=>?_)
  (skip)
  go_simp
  try(unfold stored;go_simp)
  refine uI _ _ ⟨?_,?_⟩
  ·(co_quiet qj)
  clear uI Kq
  try walk_nrm)
 (co_apply aQ rfl;intro _ qI;replace hF:=zW.rely hF qI;clear qI
  refine goes_oper_k rfl rfl aB (λKq uI=>?_)
  (skip)
  go_simp
  try(unfold stored;go_simp)
  refine uI _ _ ⟨?_,?_⟩
  ·(rw[listed_nil lF];exact zx hF.bs.hC _ rfl)
  clear uI Kq
  try walk_nrm)
 replace hF:=hF.aes (.int .i64 0);generalize hN:Array.size (World.heap _)=bj at hF⊢;clear hN
 (co_apply aQ rfl;intro _ qI;replace hF:=XN.rely hF qI;clear qI
  refine goes_oper_k rfl rfl aB (λKq uI=>?_)
  (have h0:=hF.cj.1;have h1:=hF.cj.2)
  go_simp
  try(unfold stored;go_simp)
  refine uI _ _ ⟨?_,?_⟩
  ·(refine P5 hF.mj hF.jC (hF.sf.bs.lt hF.mj) ?_;co_evs (exact⟨_,_,rfl,rfl⟩))
  clear uI Kq
  try walk_nrm)
 clear h0 h1;replace hF:=hF.an5 (.int .i64 ((j:Nat):Int))
 (co_apply aQ rfl;intro _ qI;replace hF:=XN.rely hF qI;clear qI;rw[bg];simp only[bu];refine⟨a_ qj _,?_⟩)
 (co_apply aQ rfl;intro _ qI;replace hF:=XN.rely hF qI;clear qI;rw[aX];simp only[bu];refine⟨a_ qj _,?_⟩)
 (co_apply aQ rfl;intro _ qI;replace hF:=XN.rely hF qI;clear qI;rw[dW,ng7];simp only[bu,List.range,List.range.loop];refine⟨a_ qj _,?_⟩;simp only[og7,qg7])
 (co_apply aQ rfl;intro _ qI;replace hF:=XN.rely hF qI;clear qI)
 refine goes_call rfl rfl aB rfl Nc.f_add (nm_add link) rfl ⟨a_ qj _,?_⟩
 walk_nrmf addFn
 refine dC (n:=0) λw₁ hR=>?_
 replace hF:=hF.rely hR;clear hR;have hA:=λ(b₀:aS)(a₀:Act)(ops₀:Array Oper)(i₀:Nat)(rest₀:aC)(k₀:dh)=>an9 (L:=link) (P:=Tryz.prog) (Wg:=Wg) (b₀:=b₀) (a₀:=a₀) (ops₀:=ops₀) (i₀:=i₀) (rest₀:=rest₀) (k₀:=k₀) (cs:=cs) Nc;simp only[body_add,addFn,bf]at hA;refine⟨rfl,_,0+1+1+1,hA _ _ _ _ _ _,?_⟩;clear hA;walk_nrm
 (co_apply aQ rfl;intro _ qI;replace hF:=XN.rely hF qI;clear qI;rw[bg];simp only[bu];refine⟨a_ qj _,?_⟩)
 (co_apply aQ rfl;intro _ qI;replace hF:=XN.rely hF qI;clear qI;rw[dW,ng8];simp only[bu,List.range,List.range.loop];refine⟨a_ qj _,?_⟩;simp only[og8,qg8])
 (co_apply aQ rfl;intro _ qI;replace hF:=XN.rely hF qI;clear qI
  refine goes_oper_k rfl rfl aB (λKq uI=>?_)
  (skip)
  go_simp
  try(unfold stored;go_simp)
  refine uI _ _ ⟨?_,?_⟩
  ·(co_quiet qj)
  clear uI Kq
  try walk_nrm)
 refine dC (n:=0) λw₂ r₂=>?_
 replace hF:=hF.rely r₂;clear r₂;refine⟨rfl,?_⟩;rw[stepG_spawn (d:=Un Wg (E.cap bj)) (w':=w₂) (f:=.func 84) (c:=KP Wg (E.cap bj)) rfl rfl aB (by simp[go_sem,Un,KP,FU.cap,Deferred.ofValue]) rfl];generalize hL:listed _ _ _ _ _=Lx
 have hLx:Lx=#[]:=by rw[<-hL];simp[listed,go_sem,seen,Deferred.ofValue];rfl
 subst hLx;clear hL
 refine⟨_,_,j,[bj],rfl,rfl,λhx=>by have:=(CX j).1 hx;omega,hj,λb hb=>awH,
  ⟨mw,hmw _ _ _ _ hE.len hE.cl rfl (aoT hF)⟩,λl' TM=>(ae7 r _ _ _).2 ⟨m1+1+1+1+1+1+1+1,?_⟩⟩
 walk_nrm;have hS:zW Wg C k n B L E s1 (w₂.out (book w₂.heap.size l')):=hF.sf.book (λb hb=>hF.sf.bs.lt ((TM b).1 hb).1);clear hF;have E8:IntKind.i64.wrap ((j:Int)+1)=((j+1:Nat):Int):=jG
 (co_apply aQ rfl;intro _ qI;replace hS:=zW.rely hS qI;clear qI;rw[bg];simp only[bu];refine⟨a_ qj _,?_⟩)
 (co_apply aQ rfl;intro _ qI;replace hS:=zW.rely hS qI;clear qI;rw[stepG_inBlock];simp only[bu];refine⟨a_ qj _,?_⟩)
 (co_apply aQ rfl;intro _ qI;replace hS:=zW.rely hS qI;clear qI;rw[dW,ng9];simp only[bu,List.range,List.range.loop];refine⟨a_ qj _,?_⟩;simp only[og9,qg9])
 (co_apply aQ rfl;intro _ qI;replace hS:=zW.rely hS qI;clear qI
  refine goes_oper_k rfl rfl aB (λKq uI=>?_)
  (skip)
  go_simp
  try(unfold stored;go_simp)
  refine uI _ _ ⟨?_,?_⟩
  ·(co_quiet qj)
  clear uI Kq
  try walk_nrm)
 (co_apply aQ rfl;intro _ qI;replace hS:=zW.rely hS qI;clear qI
  refine goes_oper_k rfl rfl aB (λKq uI=>?_)
  (skip)
  go_simp
  try(unfold stored;go_simp)
  refine uI _ _ ⟨?_,?_⟩
  ·(co_quiet qj)
  clear uI Kq
  try walk_nrm)
 (co_apply aQ rfl;intro _ qI;replace hS:=zW.rely hS qI;clear qI;rw[bg];simp only[bu];refine⟨a_ qj _,?_⟩)
 subst hkk
 (co_apply aQ rfl;intro _ qI;replace hS:=zW.rely hS qI;clear qI;rw[stepG_inLoop];simp only[bu];refine⟨a_ qj _,?_⟩)
 refine ih _ _ (j::ids) s1 (aji rfl) hS (λx=>?_);rw[dK,CX];omega
theorem spc(hE:UF E k n L){cs:aT}:∀(d j:Nat),j+d=n->∃m,∀(T:aH)(w:ah)(ids:aC)(s0:Nat),TC E Wg n j T->zW Wg C k n B L E s0 w->(∀x,x∈ids↔x<j)->
  Goes Tryz.prog true (Ro Wg C n B (λi=>¬i<n)) (Dg Wg C n B (λi=>¬i<n)) (StC Wg C k n B L E cs d ids) m (G ((base 53).at ⟨T,[]⟩ (.code Aa::.inLoop Aa::.inBlock 0::[.code abl])) cs) w
 |0,j,hd=>by obtain rfl:j=n:=ag;exact aoV (Wg:=Wg) (C:=C) (n:=j) (B:=B) (L:=L) (E:=E) (cs:=cs)
 |d+1,j,hd=>by obtain⟨m1,ih⟩:=spc hE d (j+1) ag;exact ams hE ag d ih
def TB(E:FU)(Wg:Nat)(T:aH):Prop:=∃f:Nat->ai,T=#[f 0,f 1,f 2,.pointer (some ⟨E.bk,0,none⟩),f 4,f 5,f 6,.pointer (some ⟨E.bd,0,none⟩),.pointer (some ⟨E.ba,0,none⟩),.pointer (some ⟨Wg,0,none⟩),f 10,f 11,f 12,f 13,f 14,f 15,f 16,f 17,f 18,f 19,f 20,f 21,f 22,f 23,f 24,f 25]
theorem af5(hE:UF E k n L){cs:aT}{T:aH}{w:ah}{s0:Nat}(hT:TB E Wg T)(hF:zW Wg C k n B L E s0 w):
  Sp Tryz.prog link.tWg Wg C n B (· <n) (Xo C L (E.res k L)) (KC Wg C k n B L E cs) n [] (G ((base 53).at ⟨T,[]⟩ [.code Ap]) cs) w:=by
 obtain⟨m,hm⟩:=spc (Wg:=Wg) (C:=C) (k:=k) (n:=n) (B:=B) (L:=L) (E:=E) hE (cs:=cs) n 0 ag;rw[ae7];co_apply Exists.intro;obtain⟨f,rfl⟩:=hT;rw[ajj]
 (co_apply aQ rfl;intro _ qI;replace hF:=zW.rely hF qI;clear qI;rw[aX];simp only[bu];refine⟨a_ qj _,?_⟩)
 (co_apply aQ rfl;intro _ qI;replace hF:=zW.rely hF qI;clear qI;rw[aX];simp only[bu];refine⟨a_ qj _,?_⟩)
 (co_apply aQ rfl;intro _ qI;replace hF:=zW.rely hF qI;clear qI;rw[dW,ng4];simp only[bu,List.range,List.range.loop];refine⟨a_ qj _,?_⟩;simp only[og4,qg4])
 (co_apply aQ rfl;intro _ qI;replace hF:=zW.rely hF qI;clear qI
  refine goes_oper_k rfl rfl aB (λKq uI=>?_)
  (have h0:=hF.low.va)
  go_simp
  try(unfold stored;go_simp)
  refine uI _ _ ⟨?_,?_⟩
  ·(refine tH (b:=E.ba) (.inr hF.low.la) (by have:=hF.low.la.1;have:=hF.bs.hB;omega) ?_;co_evs (exact⟨_,rfl,rfl⟩))
  clear uI Kq
  try walk_nrm)
 clear h0
 (co_apply aQ rfl;intro _ qI;replace hF:=zW.rely hF qI;clear qI
  refine goes_oper_k rfl rfl aB (λKq uI=>?_)
  (skip)
  go_simp
  try(unfold stored;go_simp)
  refine uI _ _ ⟨?_,?_⟩
  ·(co_quiet qj)
  clear uI Kq
  try walk_nrm)
 (co_apply aQ rfl;intro _ qI;replace hF:=zW.rely hF qI;clear qI
  refine goes_oper_k rfl rfl aB (λKq uI=>?_)
  (skip)
  go_simp
  try(unfold stored;go_simp)
  refine uI _ _ ⟨?_,?_⟩
  ·(co_quiet qj)
  clear uI Kq
  try walk_nrm)
 (co_apply aQ rfl;intro _ qI;replace hF:=zW.rely hF qI;clear qI;rw[bg];simp only[bu];refine⟨a_ qj _,?_⟩)
 (co_apply aQ rfl;intro _ qI;replace hF:=zW.rely hF qI;clear qI;rw[lK];simp only[bu];refine⟨a_ qj _,?_⟩)
 (co_apply aQ rfl;intro _ qI;replace hF:=zW.rely hF qI;clear qI;rw[stepG_loop];simp only[bu];refine⟨a_ qj _,?_⟩)
 exact hm _ _ [] s0 (aji rfl) hF (λx=>⟨λh=>lh,λh=>absurd h ag⟩)
end
end Go.Proofs.Y
namespace Go.Proofs.Y
open Go.RowKit Go.Deep Go.Lf Go.Conc Go.ConcN Go.Gh
open Go.ConcR (Payload WgAt wgBlock)
theorem sfC:∃fn,Tryz.prog.funcs[53]?=some fn:=⟨_,Tryz.func53⟩
noncomputable def gc3:Code:=rX (rX (rX Bf))
noncomputable def qg3:{x:Array Oper//x=zt (sZ gc3)}:=⟨_,by simp only[gc3,Bf,sZ,rX,zt,Tryz.f53,bf];rfl⟩
noncomputable def og3:Array Oper:=qg3.1
theorem aog:gc3=.seq (.region 3 og3 false) Ap:=ak
theorem ng3:og3.size=1:=ak
def TPc(bk bd ba:Nat)(T:aH):Prop:=∃f:Nat->ai,T=#[f 0,f 1,f 2,.pointer (some ⟨bk,0,none⟩),f 4,f 5,f 6,.pointer (some ⟨bd,0,none⟩),.pointer (some ⟨ba,0,none⟩),f 9,f 10,f 11,f 12,f 13,f 14,f 15,f 16,f 17,f 18,f 19,f 20,f 21,f 22,f 23,f 24,f 25]
theorem aoW{bk bd ba:Nat}{T:aH}(h:T=#[ae T 0,ae T 1,ae T 2,.pointer (some ⟨bk,0,none⟩),ae T 4,ae T 5,ae T 6,.pointer (some ⟨bd,0,none⟩),.pointer (some ⟨ba,0,none⟩),ae T 9,ae T 10,ae T 11,ae T 12,ae T 13,ae T 14,ae T 15,ae T 16,ae T 17,ae T 18,ae T 19,ae T 20,ae T 21,ae T 22,ae T 23,ae T 24,ae T 25]):TPc bk bd ba T:=⟨λi=>T.getD i undef,h⟩
structure PFc(k n L:Nat)(l:aj)(bk bd P F ba C:Nat)(w:ah):Prop where
 vk:w.cell? ⟨bk,0,none⟩=some (.int .i64 ((k:Nat):Int))
 vd:w.cell? ⟨bd,0,none⟩=some (.slice (some ⟨P,0,none⟩) k k)
 hP:∀j,j<k->w.cell? ⟨P,j,none⟩=some (.slice (some ⟨F,j*L,none⟩) L (k*L-j*L))
 hF:∀i,i<k*L->w.cell? ⟨F,i,none⟩=some (.int .u8 ((sV l i:Nat):Int))
 va:w.cell? ⟨ba,0,none⟩=some (.slice (some ⟨C,0,none⟩) n n)
 pay:w.heap[C]?=some (.cells (madeCells #[.slice none 0 0] n) 24)
 new:bk<C/\bd<C/\P<C/\F<C/\C<ba/\ba<w.heap.size
section
variable {X:Nat->Prop}{Y:Nat->aZ}{D:Nat->ah->aN->Prop}{Stop:aI->ah->Prop}{w:ah}{k n:Nat}{l:aj}{vd:ai}
theorem aaJ(hD:zN X D){cs:aT}(V4:1<=k)(hkn:k<=n)(hn:n<=128)(hl:l.length<=65536)(hv:qP w vd (rP l))
  (qZ:∀(bk bd P F ba C:Nat)(T:aH)(w1:ah),TPc bk bd ba T->PFc k n (rO k l.length) l bk bd P F ba C w1->(∀b,b<w.heap.size->b<C)->(w.heap.size<=bk/\w.heap.size<=bd/\w.heap.size<=P/\w.heap.size<=F)->tX w.heap.size w w1->uN Tryz.prog X Y D Stop 53 cs [.code gc3] ⟨T,[]⟩ w1):
  uN Tryz.prog X Y D Stop 53 cs [.code Bf] ⟨#[.int .i64 ((k:Nat):Int),.int .i64 ((n:Nat):Int),vd]++Array.replicate 23 undef,[]⟩ w:=by
 unfold Bf;simp only[Tryz.f53,bf,eU,eQ,eH,eP,dw,df]
 have one:∀(u:ah)(x:ai)(t:aG),(u.alloc (.cells #[x] t)).rowIs u.heap.size t 1 (λ_=>x):=λu x t=>World.rowIs_alloc u #[x] t (λ_=>x) (λi hi=>by obtain rfl:i=0:=nT;rfl)
 refine rV IP hD ak rfl sfC λR hR τ d'=>?_
 have hvA:qP ({w with tape:=τ,drawn:=d'}:ah) vd (rP l):=hv;have hzA:({w with tape:=τ,drawn:=d'}:ah).heap.size<=w.heap.size:=ay _;have hzB:w.heap.size<=({w with tape:=τ,drawn:=d'}:ah).heap.size:=ay _;have hbA:tX w.heap.size w {w with tape:=τ,drawn:=d'}:=(tX.refl _ w).tp τ d';generalize({w with tape:=τ,drawn:=d'}:ah)=wA at hvA hzA hzB hbA⊢;have y0:=one wA (.int .i64 ((k:Nat):Int)) 3;have b0:Below wA.heap.size wA (wA.alloc (.cells #[.int .i64 ((k:Nat):Int)] 3)):=(aO _ _).alloc (ay _) _;have s0:(wA.alloc (.cells #[.int .i64 ((k:Nat):Int)] 3)).heap.size=wA.heap.size+1:=aA;go_wp2;have hv0:=hvA.below b0;have bl0:=hbA.trans (tX.of b0) hzB;generalize wA.alloc (.cells #[.int .i64 ((k:Nat):Int)] 3)=w0 at y0 b0 s0 hv0 bl0⊢;clear b0;refine rV IP hD ak rfl sfC λR hR τ d'=>?_
 replace hv0:qP ({w0 with tape:=τ,drawn:=d'}:ah) vd (rP l):=hv0;replace y0:({w0 with tape:=τ,drawn:=d'}:ah).rowIs wA.heap.size 3 1 (λ_=>.int .i64 ((k:Nat):Int)):=y0;replace s0:({w0 with tape:=τ,drawn:=d'}:ah).heap.size=wA.heap.size+1:=s0;replace bl0:=bl0.tp τ d';generalize({w0 with tape:=τ,drawn:=d'}:ah)=w0 at hv0 y0 s0 bl0⊢;generalize Jg:wA.heap.size=bk at*;have c1:=alk k V4 ag vd l hl w0 hv0;have g0:=y0.cell (i:=0) ag
 go_wp2_with(first|(go_at_call 83;(with_reducible refine c1.mono ?_);rintro e w1 ⟨P,F,rfl,hPc⟩))
 have hlo:=hPc.lo;have tV:=hPc.xG;have ar9:=hPc.list.lt;have ar_:=hPc.row.lt;have Ai:=tV.size;have v1:=one w1 (.slice (some ⟨P,0,none⟩) k k) 23;have s2:(w1.alloc (.cells #[.slice (some ⟨P,0,none⟩) k k] 23)).heap.size=w1.heap.size+1:=aA;have ba1:Below w1.heap.size w1 (w1.alloc (.cells #[.slice (some ⟨P,0,none⟩) k k] 23)):=(aO _ _).alloc (ay _) _;have bl1:=(bl0.trans (tX.of tV) ag).trans (tX.of ba1) ag;have y1:=(y0.of_block (tV.block bk ag)).of_block (ba1.block bk ag);have hls:=hPc.list.of_block (ba1.block P ar9);have hrw:=hPc.row.of_block (ba1.block F ar_);generalize w1.alloc (.cells #[.slice (some ⟨P,0,none⟩) k k] 23)=wB at v1 s2 bl1 y1 hls hrw⊢;generalize hbd:w1.heap.size=bd at*;clear hPc tV c1 g0 hv0 ba1;refine rV IP hD ak rfl sfC λR hR τ d'=>?_
 replace hls:({wB with tape:=τ,drawn:=d'}:ah).rowIs _ _ _ _:=hls;replace hrw:({wB with tape:=τ,drawn:=d'}:ah).rowIs _ _ _ _:=hrw;replace y1:({wB with tape:=τ,drawn:=d'}:ah).rowIs _ _ _ _:=y1;replace v1:({wB with tape:=τ,drawn:=d'}:ah).rowIs _ _ _ _:=v1;replace s2:({wB with tape:=τ,drawn:=d'}:ah).heap.size=bd+1:=s2;replace bl1:=bl1.tp τ d';generalize({wB with tape:=τ,drawn:=d'}:ah)=wB at hls hrw y1 v1 s2 bl1⊢;have m2:=Eb n hn wB;rw[s2]at m2;generalize hZ:madeCells #[.slice none 0 0] n=Z at*
 have z2:(wB.alloc (.cells Z 24)).heap[bd+1]?=some (.cells Z 24):=by have:=gU wB (.cells Z 24);rwa[s2]at this
 have s3:(wB.alloc (.cells Z 24)).heap.size=bd+2:=by simp[s2]
 have v2:=v1.alloc (.cells Z 24);have b2:Below (bd+1) wB (wB.alloc (.cells Z 24)):=(aO _ _).alloc ag _;go_wp2;generalize wB.alloc (.cells Z 24)=w2 at z2 s3 v2 b2⊢;have v3:=one w2 (.slice (some ⟨bd+1,0,none⟩) n n) 23;rw[s3]at v3;have b3:=b2.alloc ag (.cells #[.slice (some ⟨bd+1,0,none⟩) n n] 23);have z3:(w2.alloc (.cells #[.slice (some ⟨bd+1,0,none⟩) n n] 23)).heap[bd+1]?=some (.cells Z 24):=(dI _ _ _ ag).trans z2;have v4:=v2.alloc (.cells #[.slice (some ⟨bd+1,0,none⟩) n n] 23);have s4:(w2.alloc (.cells #[.slice (some ⟨bd+1,0,none⟩) n n] 23)).heap.size=bd+3:=by simp[s3]
 generalize w2.alloc (.cells #[.slice (some ⟨bd+1,0,none⟩) n n] 23)=w3 at*;have y3:=y1.of_block (b3.block bk ag);have l3:=hls.of_block (b3.block P ag);have f3:=hrw.of_block (b3.block F ag);refine qZ bk bd P F (bd+2) (bd+1) _ w3 (aoW rfl) ⟨y3.cell (i:=0) ag,v4.cell (i:=0) ag,λj hj=>l3.cell hj,λi hi=>f3.cell hi,v3.cell (i:=0) ag,by rw[hZ];exact z3,⟨ag,ag,ag,ag,ag,ag⟩⟩ (λb hb=>ag) ⟨ag,ag,ag,ag⟩ (bl1.trans (tX.of b3) ag)
end
section
variable {k n L:Nat}
def Ib(F k L:Nat)(l:aj)(j:Nat):Um:=⟨some ⟨F,j*L,none⟩,F,j*L,k*L-j*L,(List.range L).map λm=>sV l (j*L+m)⟩
def Ju(k L:Nat)(l:aj)(bk bd P F ba:Nat)(h0:Nat->aZ):FU:={ba:=ba,bk:=bk,bd:=bd,bD:=P,oD:=0,cD:=k,cs:=(List.range k).map (Ib F k L l),h0:=h0}
theorem Gu{n i j:Nat}(h:(List.range n)[i]?=some j):i<n/\j=i:=by obtain⟨h1,h2⟩:=fB.1 h;simp at h1 h2;exact⟨h1,h2.symm⟩
theorem alE{l:aj}{bk bd P F ba:Nat}{h0:Nat->aZ}(hk:0<k/\k<=128)(hn:n<=128)(hL:L<=140737488355328):UF (Ju k L l bk bd P F ba h0) k n L:=by refine⟨hk.1,hk.2,hn,hL,by simp[Ju],λc hc=>?_⟩;simp only[Ju,gI]at hc;obtain⟨j,_,rfl⟩:=hc;refine⟨by simp[Ib,Dc],λy hy=>?_⟩;simp only[Ib,gI]at hy;obtain⟨m,_,rfl⟩:=hy;unfold sV;exact(l.getD _ 0).toNat_lt
theorem uO{W:ah}{b o:Nat}{u:ai}(x:Obj)(h:W.cell? ⟨b,o,none⟩=some u):(W.alloc x).cell? ⟨b,o,none⟩=some u:=by have hb:=rY h;simp only[World.cell?,dI _ _ _ hb]at h⊢;exact h
theorem Hf{X:Nat->Prop}{Y:Nat->aZ}{w v:ah}{b:Nat}{c:aH}{t:aG}{fr:Nat×Nat}(h:yg X Y w v)(hx:¬X b)(hb:v.heap[b]?=some (.cells c t fr)):w.heap[b]?=some (.cells c t fr):=by
 cases hy:Y b with
 |none=>rw[h.same b hx hy];exact hb
 |some o=>
  obtain⟨o',_,h2,hg⟩:=h.gho b _ hy;rw[hb]at h2;cases h2;rcases hg with⟨_,_,_,h4⟩|⟨_,_,_,h4⟩<;>cases h4
theorem af4[Payload][qR](Bh:Payload.ety=24){X:Nat->Prop}{Y:Nat->aZ}{v3 W:ah}{l:aj}{lw bk bd P F ba C:Nat}(hold:∀b,qR.old b->b<lw)(hX:∀b,X b->b<lw)(NV:lw<=bk/\lw<=bd/\lw<=P/\lw<=F)(hs:yg X Y W v3)(hP:PFc k n L l bk bd P F ba C v3){Wg:Nat}(hWg:W.heap.size=Wg+1)(hba:ba<Wg):
  zW Wg C k n (Wg+1) L (Ju k L l bk bd P F ba (λb=>W.heap[b]?)) (Wg+1) (gw W []):=by
 obtain⟨n1,n2,n3,n4,n5,n6⟩:=hP.new;have hsz:=hs.size;have st:∀{b o:Nat}{u:ai},v3.cell? ⟨b,o,none⟩=some u->(gw W []).cell? ⟨b,o,none⟩=some u:=λ{b o u} h=>(show W.cell? ⟨b,o,none⟩=some u from OA hs h);have lo:∀{b:Nat},b<Wg->b≠C->lw<=b->LoC Wg C (Wg+1) b:=λ{b} h h' hl=>⟨ag,ag,h',λho=>by have:=hold b ho;omega⟩;have ahx:(gw W []).heap.size=Wg+1:=hWg
 have hcs:∀{t:Nat}{c:Um},((List.range k).map (Ib F k L l))[t]?=some c->t<k/\c=Ib F k L l t:=λ{t c} e=>by exact ayj
 refine⟨⟨?_,ag,ag,λb hb=>?_⟩,⟨madeCells #[.slice none 0 0] n,?_,jw _ _⟩,⟨lo (b:=ba) ag ag ag,lo (b:=bk) ag ag ag,lo (b:=bd) ag ag ag,lo (b:=P) ag ag ag,st hP.va,st hP.vk,st hP.vd,λj c e=>?_,λc hc=>?_,λb _ _ _=>rfl⟩,⟨ag,ag,ag⟩⟩
 .unfold gw;rw[xE];exact ay _
 .unfold gw at hb;rw[vM]at hb;cases hb
 .exact ayo
 .obtain⟨h1,rfl⟩:=hcs e;simp only[Ju,Ib,bJ];exact st (hP.hP j h1)
 .simp only[Ju,gI,jM]at hc;obtain⟨t,ht,rfl⟩:=hc;refine⟨lo (by show F<_;omega) (by show F≠C;omega) (by show lw<=F;omega),λ_=>rfl,λi y e=>?_⟩;simp only[Ib,dV]at e⊢;obtain⟨j',NZ,rfl⟩:=dU.1 e;obtain⟨h1,rfl⟩:=Gu NZ;refine st (hP.hF _ ?_);have:t*L+L<=k*L:=by rw[<-fP];exact jI L ht
  omega
theorem aeP{W v:ah}{X:Nat->Prop}{b o:Nat}{u:ai}(hk:∀b c t fr,¬X b->W.heap[b]?=some (.cells c t fr)->v.heap[b]?=some (.cells c t fr))(hb:¬X b)(h:W.cell? ⟨b,o,none⟩=some u):v.cell? ⟨b,o,none⟩=some u:=by
 have h':=h;unfold World.cell? at h';cases e:W.heap[b]? with
 |none=>simp only[e]at h';cases h'
 |some x=>
  cases x with
  |cells c t fr=>
   have:=hk b c t fr hb e;simp only[World.cell?,e]at h;simp only[World.cell?,this];exact h
  |_=>simp only[e]at h';cases h'
theorem alF[Payload][qR]{X:Nat->Prop}{Y:Nat->aZ}{w2 v3 W W' v':ah}{s0:Nat}{lb ids:aC}{l:aj}{bk bd P F ba C:Nat}(hs:yg X Y W v3){Wg:Nat}(hWg:W.heap.size=Wg+1)(arQ:ba<Wg)(hb:tX w2.heap.size w2 v3)(vU:∀b,b<w2.heap.size->b<C)(hP:PFc k n L l bk bd P F ba C v3)
  (hk:∀b c t fr,¬(X b\/b=Wg)->W'.heap[b]?=some (.cells c t fr)->v'.heap[b]?=some (.cells c t fr)) (hX:∀b,X b->b<w2.heap.size)
  (hF:zW Wg C k n (Wg+1) L (Ju k L l bk bd P F ba (λb=>W.heap[b]?)) s0 (gw W' lb)) (CX:∀x,x∈ids↔x<n)
  (F9:∀x∈ids,∃v l',Has C x v W'/\Xo C L ((Ju k L l bk bd P F ba (λb=>W.heap[b]?)).res k L) x v (gw W' l')/\∀b∈l',Wg+1<=b):
  (∃dN:Nat->Nat,∀t,t<n->v'.cell? ⟨C,t,none⟩=some (.slice (some ⟨dN t,0,none⟩) L L)/\v'.heap[dN t]?=some (.cells (tK ((Ju k L l bk bd P F ba (λb=>W.heap[b]?)).res k L t)) 5))/\(∀{b o:Nat}{u:ai},w2.cell? ⟨b,o,none⟩=some u->v'.cell? ⟨b,o,none⟩=some u)/\v'.cell? ⟨ba,0,none⟩=some (.slice (some ⟨C,0,none⟩) n n):=by
 obtain⟨n1,n2,n3,n4,n5,n6⟩:=hP.new;have hsz:=hs.size;have up:∀{b o:Nat}{u:ai},¬X b->b≠Wg->W'.cell? ⟨b,o,none⟩=some u->v'.cell? ⟨b,o,none⟩=some u:=λhx hb h=>aeP (X:=λb=>X b\/b=Wg) hk (λe=>e.elim hx hb) h
 have lw:∀{b o:Nat}{u:ai},b<Wg->b≠C->v3.cell? ⟨b,o,none⟩=some u->v'.cell? ⟨b,o,none⟩=some u:=λ{b o u} h h' hc=>by exact ayZ
 have l2:∀{b o:Nat}{u:ai},w2.cell? ⟨b,o,none⟩=some u->v'.cell? ⟨b,o,none⟩=some u:=λ{b o u} hc=>by have h1:b<w2.heap.size:=rY hc;have h2:=vU _ h1;exact lw (by have:=hb.uo;omega) ag ((Below.cell (p:=⟨b,o,none⟩) hb h1).trans hc)
 have akP:∀t,t<n->∃N',v'.cell? ⟨C,t,none⟩=some (.slice (some ⟨N',0,none⟩) L L)/\v'.heap[N']?=some (.cells (tK ((Ju k L l bk bd P F ba (λb=>W.heap[b]?)).res k L t)) 5):=by intro t ht;obtain⟨v,l',h1,⟨N',rfl,hmn,_,h2⟩,TM⟩:=F9 t ((CX t).2 ht);have hN':=TM N' ((yU W' l' N').1 hmn);refine⟨N',up (λhx=>by have:=hX C hx;have:=vU C this;omega) ag h1,hk N' _ _ _ (λe=>?_) h2⟩;have e:=e.resolve_left (λhx=>by have:=hX N' hx;have:=vU N' this;omega);omega
 refine⟨⟨λt=>if h:t<n then(akP t h).choose else 0,λt ht=>?_⟩,l2,lw ag ag hP.va⟩;simp only[kG ht];exact(akP t ht).choose_spec
end
structure Kept(w w':ah):Prop where
 os:w'.os=w.os
 output:w'.output=w.output
 size:w.heap.size<=w'.heap.size
 block:∀b,b<w.heap.size->w'.heap[b]?=w.heap[b]?
theorem yg.agree{X:Nat->Prop}{Y:Nat->aZ}{w w' v v':ah}(h:yg X Y w v)(h':yg X Y w' v'){b:Nat}(hx:¬X b)(e:v'.heap[b]?=v.heap[b]?):w'.heap[b]?=w.heap[b]?:=by
 cases hy:Y b with
 |none=>rw[h.same b hx hy,h'.same b hx hy,e]
 |some o=>
  obtain⟨_,h1,_⟩:=h.gho b o hy;obtain⟨_,h2,_⟩:=h'.gho b o hy;rw[h1,h2]
section
variable {P:aP}{F:aU->Bool}{X:Nat->Prop}{Y:Nat->aZ}{D:Nat->ah->aN->Prop}{Stop:aI->ah->Prop}{f:aU}{k:dh}{cs:aT}{a:Act}{v:ah}{ops:Array Oper}{i:Nat}{rest:aC}{o:Oper}
end
section
variable {X:Nat->Prop}{Y:Nat->aZ}{D:Nat->ah->aN->Prop}{Stop:aI->ah->Prop}{v:ah}{n C Wg j:Nat}{E:FU}{cs:aT}{f:aS}
theorem aqf(hD:zN X D){T:aH}{ops:Array Oper}(hT:TC E Wg n j T)(hba:v.cell? ⟨E.ba,0,none⟩=some (.slice (some ⟨C,0,none⟩) n n))
  (VR:∀τ d,∀w,rG X Y w {v with tape:=τ,drawn:=d}->sU Tryz.prog D Stop (G (f.finish (.slice (some ⟨C,0,none⟩) n n)) cs) w):
  uN Tryz.prog X Y D Stop 53 (f::cs) (.inRegion ops []::[.code ae6]) ⟨T,[]⟩ v:=by
 have hD0:zN X D:=hD;obtain⟨f0,rfl⟩:=hT;refine aaG hD0 ?_;unfold ae6;simp only[aqL,aqK];refine rV IP hD ak rfl sfC λR hR τ d'=>?_
 have tV:({v with tape:=τ,drawn:=d'}:ah).cell? ⟨E.ba,0,none⟩=some (.slice (some ⟨C,0,none⟩) n n):=hba;have YB:=VR τ d';generalize{v with tape:=τ,drawn:=d'}=v1 at tV YB⊢;go_wp2;refine aaH (y:=.slice (some ⟨C,0,none⟩) n n) hD rfl Tryz.func53 (λτ d=>?_) YB;exact results_tmp (fn:=Tryz.f53) (t:=6) rfl _ _ _
end
end Go.Proofs.Y
namespace Go.Proofs.Y
open Go.RowKit Go.Deep Go.Shelf
attribute [local go_sem] Oper.semAt_some
structure KpC(n₀ sb nb:Nat)(A B:ah):Prop where
 below:Below n₀ A B
 s:B.heap[sb]?=A.heap[sb]?
 n:B.heap[nb]?=A.heap[nb]?
end Go.Proofs.Y
namespace Go.Proofs.Y
open Go.RowKit Go.Deep Go.Shelf
attribute [local go_sem] Oper.semAt_some
end Go.Proofs.Y
namespace Go.Proofs.Y
open Go.RowKit Go.Deep Go.Lf Go.Conc
section
variable {X:Nat->Prop}{Y:Nat->aZ}{D:Nat->ah->aN->Prop}{Stop:aI->ah->Prop}{v:ah}{cs:aT}{cfr:aS}
end
section
variable {X:Nat->Prop}{Y:Nat->aZ}{D:Nat->ah->aN->Prop}{Stop:aI->ah->Prop}{v:ah}{cs:aT}{cfr:aS}
end
section
variable {X:Nat->Prop}{Y:Nat->aZ}{D:Nat->ah->aN->Prop}{Stop:aI->ah->Prop}{v:ah}{cs:aT}
end
section
variable {v:ah}{lb sb nb D l:Nat}{ba:aW}{len cap c:Nat}{M qC:aj}{T:aH}{st st':LoopState}{j:Nat}{W:ah}
end
section
variable {X:Nat->Prop}{Y:Nat->aZ}{D:Nat->ah->aN->Prop}{Stop:aI->ah->Prop}{v:ah}{cs:aT}{cfr:aS}
end
section
variable {X:Nat->Prop}{Y:Nat->aZ}{D:Nat->ah->aN->Prop}{Stop:aI->ah->Prop}{v:ah}{cs:aT}{cfr:aS}
end
end Go.Proofs.Y
namespace Go.Proofs.Y
open Go.RowKit Go.Deep Go.Lf Go.Conc Go.Hp
def T6(f:Nat->ai)(pc K N:Nat)(vb vn vs vm vh vj:ai)(b0 b1 b2 b3 b4 b5 b8:Bool):aH:=#[vb,f 1,f 2,.pointer (some ⟨pc,0,none⟩),f 4,f 5,vn,vs,vm,vh,f 10,f 11,f 12,f 13,f 14,f 15,f 16,f 17,f 18,f 19,f 20,f 21,f 22,f 23,f 24,f 25,f 26,f 27,(if b0 then .pointer (some ⟨pc,0,none⟩)else f 28),(if b1 then .int .i64 ((K:Nat):Int)else f 29),(if b2 then .pointer (some ⟨pc,1,none⟩)else f 30),(if b3 then .int .i64 ((N:Nat):Int)else f 31),(if b4 then vb else f 32),(if b5 then vj else f 33),f 34,f 35,(if b8 then .int .i64 0 else f 36),f 37,f 38,f 39,f 40,f 41,f 42,f 43,f 44,f 45,f 46,f 47,f 48,f 49,f 50,f 51,f 52,f 53,f 54,f 55,f 56,f 57,f 58,f 59]
def TA(pc:Nat)(vn vs vm vh x:ai)(T:aH):Prop:=∃f:Nat->ai,T=#[f 0,f 1,f 2,.pointer (some ⟨pc,0,none⟩),f 4,f 5,vn,vs,vm,vh,f 10,f 11,f 12,f 13,f 14,f 15,f 16,f 17,f 18,f 19,f 20,f 21,f 22,f 23,f 24,f 25,f 26,f 27,f 28,f 29,f 30,f 31,f 32,f 33,f 34,f 35,x,f 37,f 38,f 39,f 40,f 41,f 42,f 43,f 44,f 45,f 46,f 47,f 48,f 49,f 50,f 51,f 52,f 53,f 54,f 55,f 56,f 57,f 58,f 59]
def Left(x:ai)(rest:aC):Prop:=(rest=[7]/\x=.int .i64 0)\/rest=[7,8]\/rest=[8,7]
section
variable {X:Nat->Prop}{Y:Nat->aZ}{D:Nat->ah->aN->Prop}{Stop:aI->ah->Prop}{cs:aT}
