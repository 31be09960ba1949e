import Derived.Test.YtnbflnamlpodcaaGreatDoorCoK
set_option maxHeartbeats 8000000
set_option maxRecDepth 100000
namespace Go.Proofs.Y
open Go.Proofs.Tryz
open Go.Conc Go.ConcN Go.RowKit Go.Gh Go.Conc.Lib Go.ConcR.Gen Go.ConcN.Gen
open Go.ConcR (Payload)
def LoC[qV](Wg C B b:Nat):Prop:=b<B/\b≠Wg/\b≠C/\¬qV.old b
structure FB where
 ba:Nat
 bk:Nat
 bd:Nat
 bD:Nat
 oD:Nat
 cD:Nat
 cs:List Ub
 h0:Nat->Option Obj
def FB.cap(E:FB)(bj:Nat):YI:={ba:=E.ba,bj:=bj,bk:=E.bk,bd:=E.bd,bD:=E.bD,oD:=E.oD,cD:=E.cD}
def FB.res(E:FB)(k L t:Nat):List Nat:=comb (EH ((List.range k).map (uj k t)) E.cs) (List.replicate L 0)
structure PS(E:FB)(k n L:Nat):Prop where
 k0:0<k
 k1:k<=128
 n1:n<=128
 hL:L<=140737488355328
 len:E.cs.length=k
 cl:∀c∈E.cs,Dl c.ys L/\∀y∈c.ys,y<256
structure alX[qV](Wg C B k n L:Nat)(E:FB)(w:World):Prop where
 la:LoC Wg C B E.ba
 lk:LoC Wg C B E.bk
 ld:LoC Wg C B E.bd
 lD:LoC Wg C B E.bD
 va:w.cell? ⟨E.ba,0,none⟩=some (.slice (some ⟨C,0,none⟩) n n)
 vk:w.cell? ⟨E.bk,0,none⟩=some (.int .i64 ((k:Nat):Int))
 vd:w.cell? ⟨E.bd,0,none⟩=some (.slice (some ⟨E.bD,E.oD,none⟩) k E.cD)
 hc:∀j c,E.cs[j]?=some c->w.cell? ⟨E.bD,E.oD+j,none⟩=some (.slice c.bs L c.co)
 xP:∀c∈E.cs,LoC Wg C B c.bo/\(0<L->c.bs=some ⟨c.bo,c.oo,none⟩)/\∀i y,c.ys[i]?=some y->w.cell? ⟨c.bo,c.oo+i,none⟩=some (.int .u8 ((y:Nat):Int))
 Uj:∀b,b<B->b≠Wg->b≠C->w.heap[b]?=E.h0 b
theorem alX.AV[qV]{Wg C B k n L:Nat}{E:FB}{w w₁:World}(h:alX Wg C B k n L E w)(st0:∀b,b<B->b≠Wg->b≠C->w₁.heap[b]?=w.heap[b]?):alX Wg C B k n L E w₁:=by
 have st:∀{b:Nat},LoC Wg C B b->∀o,w₁.cell? ⟨b,o,none⟩=w.cell? ⟨b,o,none⟩:=λhb o=>by simp only[World.cell?,st0 _ hb.1 hb.2.1 hb.2.2.1]
 exact⟨h.la,h.lk,h.ld,h.lD,(st h.la _).trans h.va,(st h.lk _).trans h.vk,(st h.ld _).trans h.vd,λj c e=>(st h.lD _).trans (h.hc j c e),λc hc=>let⟨h1,h2,h3⟩:=h.xP c hc;⟨h1,h2,λi y e=>(st h1 _).trans (h3 i y e)⟩,λb h1 h2 h3=>(st0 b h1 h2 h3).trans (h.Uj b h1 h2 h3)⟩
section
variable [Payload][qV]{Wg C k n B L:Nat}{E:FB}
structure zL(Wg C k n B L:Nat)(E:FB)(s0:Nat)(w:World):Prop where
 bs:Bs C B w
 pay:PayAt C n w
 low:alX Wg C B k n L E w
 sb:C<s0/\B<=s0/\s0<=w.heap.size
theorem zL.rely{s0:Nat}{w w₁:World}(h:zL Wg C k n B L E s0 w)(r:Ro Wg C n B (λi=>¬i<n) w w₁):zL Wg C k n B L E s0 w₁:=
 ⟨h.bs.rely r,r.pay h.pay,h.low.AV r.low,⟨h.sb.1,h.sb.2.1,aJ h.sb.2.2 r.size⟩⟩
theorem zL.ex{s0:Nat}{w w₁:World}{S:Nat->Prop}(h:zL Wg C k n B L E s0 w)(hb:Bs C B w₁)(r:Ex Wg C n B (λi=>¬i<n) S w w₁):zL Wg C k n B L E s0 w₁:=
 ⟨hb,r.pay h.pay,h.low.AV r.low,⟨h.sb.1,h.sb.2.1,aJ h.sb.2.2 r.size⟩⟩
theorem zL.base{s0:Nat}{w:World}(h:zL Wg C k n B L E s0 w):zL Wg C k n B L E w.heap.size w:=⟨h.bs,h.pay,h.low,⟨h.bs.hC,h.bs.hB,ak _⟩⟩
structure XI(Wg C k n B L:Nat)(E:FB)(s0 bj:Nat)(vj:Value)(w:World):Prop where
 sf:zL Wg C k n B L E s0 w
 lj:s0<=bj
 mj:qO w bj
 hj:w.heap[bj]?=some (.cells #[vj] 3)
theorem XI.rely{s0 bj:Nat}{vj:Value}{w w₁:World}(h:XI Wg C k n B L E s0 bj vj w)(r:Ro Wg C n B (λi=>¬i<n) w w₁):XI Wg C k n B L E s0 bj vj w₁:=⟨h.sf.rely r,h.lj,(r.yj _).2 h.mj,(r.mine _ h.mj).trans h.hj⟩
theorem zL.aek{s0:Nat}{w:World}(h:zL Wg C k n B L E s0 w)(v:Value):XI Wg C k n B L E s0 w.heap.size v (w.alloc (.cells #[v] 3)):=
 ⟨h.ex (S:=λ_=>False) (h.bs.alloc _) (Ex.alloc h.bs.hC h.bs.hB (λ_ hb=>h.bs.lt hb) _),h.sb.2.2,zG (w:=w) (w':=w.alloc _) rfl h.bs.tg (ak _) gU,by rw[Ef]⟩
theorem XI.jC{s0 bj:Nat}{vj:Value}{w:World}(h:XI Wg C k n B L E s0 bj vj w):bj≠C:=awj
theorem XI.cj{s0 bj:Nat}{vj:Value}{w:World}(h:XI Wg C k n B L E s0 bj vj w):w.cell? ⟨bj,0,none⟩=some vj/\w.frozen? ⟨bj,0,none⟩=false:=⟨by rw[cell_of w h.hj];rfl,vY w h.hj 0⟩
theorem XI.anG{s0 bj:Nat}{vj:Value}{w:World}(h:XI Wg C k n B L E s0 bj vj w)(v:Value):XI Wg C k n B L E s0 bj v (w.setCell ⟨bj,0,none⟩ v):=
 ⟨h.sf.ex (S:=λx=>s0<=x) (h.sf.bs.set _ _) (Ex.set h.jC h.lj (by have:=h.sf.sb.2.1;have:=h.lj;show¬(bj<B/\_);omega)),h.lj,su (w:=w) (w':=w.setCell _ _) rfl dI h.mj,heap_set w h.hj 0 v⟩
theorem zL.book{s0:Nat}{w:World}(h:zL Wg C k n B L E s0 w){l:List Nat}(hl:∀b∈l,b<w.heap.size):zL Wg C k n B L E s0 (w.out (book w.heap.size l)):=
 ⟨⟨pz,h.bs.hC,h.bs.hB,λb hb=>by rw[vH]at hb;exact hl b hb⟩,h.pay,h.low.AV (λ_ _ _ _=>rfl),h.sb⟩
theorem aoj{s0 j bj:Nat}{w:World}(h:XI Wg C k n B L E s0 bj (.int .i64 ((j:Nat):Int)) w):WIc Wg C n B (E.cap bj) k L j E.cs (w.out (book w.heap.size [bj])):=by
 have hf:=h.sf.low
 exact⟨⟨pz,h.sf.bs.hC,h.sf.bs.hB,λb hb=>avG⟩,h.sf.pay,.inr hf.la,hf.va,.inl (.inl avF),h.cj.1,
  .inr hf.lk,hf.vk,.inr hf.ld,hf.vd,.inr hf.lD,hf.hc,λc hc=>⟨.inr (hf.xP c hc).1,(hf.xP c hc).2⟩⟩
end
def TC(E:FB)(Wg n j:Nat)(T:Array Value):Prop:=∃f:Nat->Value,T=#[f 0,f 1,f 2,.pointer (some ⟨E.bk,0,none⟩),f 4,f 5,f 6,.pointer (some ⟨E.bd,0,none⟩),.pointer (some ⟨E.ba,0,none⟩),.pointer (some ⟨Wg,0,none⟩),f 10,f 11,f 12,f 13,f 14,f 15,f 16,.int .i64 ((n:Nat):Int),.int .i64 ((j:Nat):Int),f 19,f 20,f 21,f 22,f 23,f 24,f 25]
theorem aiB{E:FB}{Wg n j:Nat}{T:Array Value}(h:T=#[T.getD 0 undef,T.getD 1 undef,T.getD 2 undef,.pointer (some ⟨E.bk,0,none⟩),T.getD 4 undef,T.getD 5 undef,T.getD 6 undef,.pointer (some ⟨E.bd,0,none⟩),.pointer (some ⟨E.ba,0,none⟩),.pointer (some ⟨Wg,0,none⟩),T.getD 10 undef,T.getD 11 undef,T.getD 12 undef,T.getD 13 undef,T.getD 14 undef,T.getD 15 undef,T.getD 16 undef,.int .i64 ((n:Nat):Int),.int .i64 ((j:Nat):Int),T.getD 19 undef,T.getD 20 undef,T.getD 21 undef,T.getD 22 undef,T.getD 23 undef,T.getD 24 undef,T.getD 25 undef]):TC E Wg n j T:=⟨λi=>T.getD i undef,h⟩
def qJ:Code->Code| .seq x _=>x|c=>c
def qo:Code->Code| .seq _ y=>y|c=>c
def Pg:Code->Code| .block _ c=>c| .loop c=>c|c=>c
def uk:Code->Array Oper| .region _ o _=>o|_=>#[]
noncomputable def zi:Code:=Tryz.f29.body.getD .skip
noncomputable def zY:Code:=qo (qo (qo (qo zi)))
noncomputable def zZ:Code:=Pg (Pg (qo (qJ zY)))
noncomputable def aaN:Code:=Pg (qJ (qo (qo zZ)))
noncomputable def qg4:{x:Array Oper//x=uk (qJ (qJ zY))}:=⟨_,by(simp only[zi,zY,qJ,qo,uk,Tryz.f29,aB];rfl)⟩
noncomputable def og4:Array Oper:=qg4.1
noncomputable def qg5:{x:Array Oper//x=uk (qJ zZ)}:=⟨_,by(simp only[zi,zZ,zY,qJ,qo,Pg,uk,Tryz.f29,aB];rfl)⟩
noncomputable def og5:Array Oper:=qg5.1
noncomputable def qg6:{x:Array Oper//x=uk (qJ aaN)}:=⟨_,by(simp only[zi,aaN,zZ,zY,qJ,qo,Pg,uk,Tryz.f29,aB];rfl)⟩
noncomputable def og6:Array Oper:=qg6.1
noncomputable def qg7:{x:Array Oper//x=uk (qJ (qo aaN))}:=⟨_,by(simp only[zi,aaN,zZ,zY,qJ,qo,Pg,uk,Tryz.f29,aB];rfl)⟩
noncomputable def og7:Array Oper:=qg7.1
noncomputable def qg8:{x:Array Oper//x=uk (qo (qo aaN))}:=⟨_,by(simp only[zi,aaN,zZ,zY,qJ,qo,Pg,uk,Tryz.f29,aB];rfl)⟩
noncomputable def og8:Array Oper:=qg8.1
noncomputable def qg9:{x:Array Oper//x=uk (qo (qo (qo zZ)))}:=⟨_,by(simp only[zi,zZ,zY,qJ,qo,Pg,uk,Tryz.f29,aB];rfl)⟩
noncomputable def og9:Array Oper:=qg9.1
noncomputable def aqb:{x:Array Oper//x=uk (qJ (qo zY))}:=⟨_,by(simp only[zi,zY,qJ,qo,uk,Tryz.f29,aB];rfl)⟩
noncomputable def aok:Array Oper:=aqb.1
noncomputable def aqc:{x:Array Oper//x=uk (qJ (qo (qo zY)))}:=⟨_,by(simp only[zi,zY,qJ,qo,uk,Tryz.f29,aB];rfl)⟩
noncomputable def aqd:Array Oper:=aqc.1
noncomputable def aeV:Code:=.seq (.region 11 aqd false) .ret
noncomputable def aaO:Code:=.seq (.region 10 aok false) aeV
theorem aiC:zY=.seq (.seq (.region 4 og4 false) (.block 0 (.loop zZ))) aaO:=ag
theorem aaP:zZ=.seq (.region 5 og5 false) (.seq (.cond (.tmp 19) .skip (.exit 0)) (.seq (.block 1 aaN) (.region 9 og9 false))):=ag
theorem alY:aaN=.seq (.region 6 og6 false) (.seq (.region 7 og7 false) (.region 8 og8 false)):=ag
theorem ng4:og4.size=3:=ag
theorem ng5:og5.size=1:=ag
theorem ng6:og6.size=3:=ag
theorem ng7:og7.size=1:=ag
theorem ng8:og8.size=2:=ag
theorem ng9:og9.size=2:=ag
theorem arQ:aok.size=1:=ag
section
variable [Payload][qV]{Wg C k n B L:Nat}{E:FB}
def KC(Wg C k n B L:Nat)(E:FB)(cs:List Frame)(ids:List Nat)(g:Goroutine)(w:World):Prop:=
 ∃T s0 j ops,g=G ((base 29).at ⟨T,[]⟩ (.inRegion ops []::[.code aeV])) cs/\TC E Wg n j T/\zL Wg C k n B L E s0 w/\∀x,x∈ids↔x<n
theorem KC.rely{cs:List Frame}{ids:List Nat}{g:Goroutine}{w w₁:World}(h:KC Wg C k n B L E cs ids g w)(r:Ro Wg C n B (λi=>¬i<n) w w₁):KC Wg C k n B L E cs ids g w₁:=by exact ax4
def StC(Wg C k n B L:Nat)(E:FB)(cs:List Frame):Nat->List Nat->Goroutine->World->Prop
 |0,ids=>alp prog link.tWg Wg (KC Wg C k n B L E cs) ids
 |r+1,ids=>aeG prog link.tWg Wg C n B (· <n) (V7 C L (E.res k L)) (Sp prog link.tWg Wg C n B (· <n) (V7 C L (E.res k L)) (KC Wg C k n B L E cs) r) ids
theorem aeW{cs:List Frame}(r:Nat)(ids:List Nat)(g:Goroutine)(w:World):Sp prog link.tWg Wg C n B (· <n) (V7 C L (E.res k L)) (KC Wg C k n B L E cs) r ids g w↔∃m,Goes prog true (Ro Wg C n B (λi=>¬i<n)) (Dg Wg C n B (λi=>¬i<n)) (StC Wg C k n B L E cs r ids) m g w:=by cases r<;>exact Iff.rfl
theorem aol{cs:List Frame}:∃m,∀(T:Array Value)(w:World)(ids:List Nat)(s0:Nat),TC E Wg n n T->zL Wg C k n B L E s0 w->(∀x,x∈ids↔x<n)->
  Goes prog true (Ro Wg C n B (λi=>¬i<n)) (Dg Wg C n B (λi=>¬i<n)) (StC Wg C k n B L E cs 0 ids) m (G ((base 29).at ⟨T,[]⟩ (.code zZ::.inLoop zZ::.inBlock 0::[.code aaO])) cs) w:=by
 co_apply Exists.intro;rintro T w ids s0 ⟨f,rfl⟩ hF Bf;have GH:¬((n:Int)<(n:Int)):=ae;generalize hkk:Item.inLoop zZ::[Item.inBlock 0,Item.code aaO]=kk;rw[aaP]
 (co_apply ay rfl;intro _ qC;replace hF:=zL.rely hF qC;clear qC;rw[aC];simp only[aI];refine⟨aG p_ _,?_⟩)
 (co_apply ay rfl;intro _ qC;replace hF:=zL.rely hF qC;clear qC;rw[cO,ng5];simp only[aI,List.range,List.range.loop];refine⟨aG p_ _,?_⟩;simp only[og5,qg5])
 (co_apply ay rfl;intro _ qC;replace hF:=zL.rely hF qC;clear qC
  refine goes_oper_k rfl rfl au (λKq uA=>?_)
  (skip)
  go_simp
  try(unfold stored;go_simp)
  refine uA _ _ ⟨?_,?_⟩
  ·(co_quiet p_)
  clear uA Kq
  try walk_nrm)
 (co_apply ay rfl;intro _ qC;replace hF:=zL.rely hF qC;clear qC;rw[aH];simp only[aI];refine⟨aG p_ _,?_⟩)
 (co_apply ay rfl;intro _ qC;replace hF:=zL.rely hF qC;clear qC;rw[aC];simp only[aI];refine⟨aG p_ _,?_⟩)
 (co_apply ay rfl;intro _ qC;replace hF:=zL.rely hF qC;clear qC)
 rw[jY (t:=false) rfl];simp only[aI,bu,aU];refine⟨aG p_ _,?_⟩
 (co_apply ay rfl;intro _ qC;replace hF:=zL.rely hF qC;clear qC)
 subst hkk;refine goes_exit rfl ?_;refine⟨aG p_ _,?_⟩;unfold aaO
 (co_apply ay rfl;intro _ qC;replace hF:=zL.rely hF qC;clear qC;rw[aC];simp only[aI];refine⟨aG p_ _,?_⟩)
 (co_apply ay rfl;intro _ qC;replace hF:=zL.rely hF qC;clear qC;rw[cO,arQ];simp only[aI,List.range,List.range.loop];refine⟨aG p_ _,?_⟩;simp only[aok,aqb])
 (co_apply ay rfl;intro _ qC;replace hF:=zL.rely hF qC;clear qC)
 refine goes_call rfl rfl au rfl L8.f_wait (nm_wait link) rfl ⟨aG p_ _,?_⟩
 walk_nrmf waitFn
 refine bI (n:=0) λw₁ hR=>?_
 replace hF:=hF.rely hR;clear hR;refine⟨rfl,_,ahS L8,_,s0,n,_,rfl,?_,hF,Bf⟩;walk_nrm;exact aiB rfl
theorem alZ(hE:PS E k n L){cs:List Frame}{j:Nat}(hj:j<n)(r:Nat){m1:Nat}
  (ih:∀(T:Array Value)(w:World)(ids:List Nat)(s0:Nat),TC E Wg n (j+1) T->zL Wg C k n B L E s0 w->(∀x,x∈ids↔x<j+1)->Goes prog true (Ro Wg C n B (λi=>¬i<n)) (Dg Wg C n B (λi=>¬i<n)) (StC Wg C k n B L E cs r ids) m1 (G ((base 29).at ⟨T,[]⟩ (.code zZ::.inLoop zZ::.inBlock 0::[.code aaO])) cs) w):
  ∃m,∀(T:Array Value)(w:World)(ids:List Nat)(s0:Nat),TC E Wg n j T->zL Wg C k n B L E s0 w->(∀x,x∈ids↔x<j)->
   Goes prog true (Ro Wg C n B (λi=>¬i<n)) (Dg Wg C n B (λi=>¬i<n)) (StC Wg C k n B L E cs (r+1) ids) m (G ((base 29).at ⟨T,[]⟩ (.code zZ::.inLoop zZ::.inBlock 0::[.code aaO])) cs) w:=by
 obtain⟨mw,hmw⟩:=anE (Wg:=Wg) (C:=C) (n:=n) (B:=B) k L hE.k0 hE.k1 hE.n1 hE.hL j hj;co_apply Exists.intro;rintro T w ids s0 ⟨f,rfl⟩ hF Bf;replace hF:=hF.base;generalize x9:w.heap.size=s1 at hF;clear x9 s0;have hjI:(j:Int)<(n:Int):=ae;have ZQ:=hE.n1;generalize hkk:Item.inLoop zZ::[Item.inBlock 0,Item.code aaO]=kk;rw[aaP]
 (co_apply ay rfl;intro _ qC;replace hF:=zL.rely hF qC;clear qC;rw[aC];simp only[aI];refine⟨aG p_ _,?_⟩)
 (co_apply ay rfl;intro _ qC;replace hF:=zL.rely hF qC;clear qC;rw[cO,ng5];simp only[aI,List.range,List.range.loop];refine⟨aG p_ _,?_⟩;simp only[og5,qg5])
 (co_apply ay rfl;intro _ qC;replace hF:=zL.rely hF qC;clear qC
  refine goes_oper_k rfl rfl au (λKq uA=>?_)
  (skip)
  go_simp
  try(unfold stored;go_simp)
  refine uA _ _ ⟨?_,?_⟩
  ·(co_quiet p_)
  clear uA Kq
  try walk_nrm)
 (co_apply ay rfl;intro _ qC;replace hF:=zL.rely hF qC;clear qC;rw[aH];simp only[aI];refine⟨aG p_ _,?_⟩)
 (co_apply ay rfl;intro _ qC;replace hF:=zL.rely hF qC;clear qC;rw[aC];simp only[aI];refine⟨aG p_ _,?_⟩)
 (co_apply ay rfl;intro _ qC;replace hF:=zL.rely hF qC;clear qC)
 rw[jY (t:=true) rfl];simp only[aI,aF];refine⟨aG p_ _,?_⟩
 (co_apply ay rfl;intro _ qC;replace hF:=zL.rely hF qC;clear qC;rw[dM];simp only[aI];refine⟨aG p_ _,?_⟩)
 (co_apply ay rfl;intro _ qC;replace hF:=zL.rely hF qC;clear qC;rw[aC];simp only[aI];refine⟨aG p_ _,?_⟩)
 (co_apply ay rfl;intro _ qC;replace hF:=zL.rely hF qC;clear qC;rw[jZ];simp only[aI];refine⟨aG p_ _,?_⟩)
 rw[alY]
 (co_apply ay rfl;intro _ qC;replace hF:=zL.rely hF qC;clear qC;rw[aC];simp only[aI];refine⟨aG p_ _,?_⟩)
 (co_apply ay rfl;intro _ qC;replace hF:=zL.rely hF qC;clear qC;rw[cO,ng6];simp only[aI,List.range,List.range.loop];refine⟨aG p_ _,?_⟩;simp only[og6,qg6])
 (co_apply ay rfl;intro _ qC;replace hF:=zL.rely hF qC;clear qC
  refine goes_oper_k rfl rfl au (λKq uA=>?_)
  (skip)
  go_simp
  try(unfold stored;go_simp)
  refine uA _ _ ⟨?_,?_⟩
  ·(co_quiet p_)
  clear uA Kq
  try walk_nrm)
 (co_apply ay rfl;intro _ qC;replace hF:=zL.rely hF qC;clear qC
  refine goes_oper_k rfl rfl au (λKq uA=>?_)
  (skip)
  go_simp
  try(unfold stored;go_simp)
  refine uA _ _ ⟨?_,?_⟩
  ·(rw[listed_nil jT];exact y_ hF.bs.hC _ rfl)
  clear uA Kq
  try walk_nrm)
 replace hF:=hF.aek (.int .i64 0);generalize hN:Array.size (World.heap _)=bj at hF⊢;clear hN
 (co_apply ay rfl;intro _ qC;replace hF:=XI.rely hF qC;clear qC
  refine goes_oper_k rfl rfl au (λKq uA=>?_)
  (have h0:=hF.cj.1;have h1:=hF.cj.2)
  go_simp
  try(unfold stored;go_simp)
  refine uA _ _ ⟨?_,?_⟩
  ·(refine PH hF.mj hF.jC (hF.sf.bs.lt hF.mj) ?_;co_evs (exact⟨_,_,rfl,rfl⟩))
  clear uA Kq
  try walk_nrm)
 clear h0 h1;replace hF:=hF.anG (.int .i64 ((j:Nat):Int))
 (co_apply ay rfl;intro _ qC;replace hF:=XI.rely hF qC;clear qC;rw[aH];simp only[aI];refine⟨aG p_ _,?_⟩)
 (co_apply ay rfl;intro _ qC;replace hF:=XI.rely hF qC;clear qC;rw[aC];simp only[aI];refine⟨aG p_ _,?_⟩)
 (co_apply ay rfl;intro _ qC;replace hF:=XI.rely hF qC;clear qC;rw[cO,ng7];simp only[aI,List.range,List.range.loop];refine⟨aG p_ _,?_⟩;simp only[og7,qg7])
 (co_apply ay rfl;intro _ qC;replace hF:=XI.rely hF qC;clear qC)
 refine goes_call rfl rfl au rfl L8.f_add (nm_add link) rfl ⟨aG p_ _,?_⟩
 walk_nrmf addFn
 refine bI (n:=0) λw₁ hR=>?_
 replace hF:=hF.rely hR;clear hR;have hA:=λ(b₀:Frame)(a₀:Act)(ops₀:Array Oper)(i₀:Nat)(rest₀:List Nat)(k₀:List Item)=>anT (L:=link) (P:=prog) (Wg:=Wg) (b₀:=b₀) (a₀:=a₀) (ops₀:=ops₀) (i₀:=i₀) (rest₀:=rest₀) (k₀:=k₀) (cs:=cs) L8;simp only[body_add,addFn,aB]at hA;refine⟨rfl,_,0+1+1+1,hA _ _ _ _ _ _,?_⟩;clear hA;walk_nrm
 (co_apply ay rfl;intro _ qC;replace hF:=XI.rely hF qC;clear qC;rw[aH];simp only[aI];refine⟨aG p_ _,?_⟩)
 (co_apply ay rfl;intro _ qC;replace hF:=XI.rely hF qC;clear qC;rw[cO,ng8];simp only[aI,List.range,List.range.loop];refine⟨aG p_ _,?_⟩;simp only[og8,qg8])
 (co_apply ay rfl;intro _ qC;replace hF:=XI.rely hF qC;clear qC
  refine goes_oper_k rfl rfl au (λKq uA=>?_)
  (skip)
  go_simp
  try(unfold stored;go_simp)
  refine uA _ _ ⟨?_,?_⟩
  ·(co_quiet p_)
  clear uA Kq
  try walk_nrm)
 refine bI (n:=0) λw₂ r₂=>?_
 replace hF:=hF.rely r₂;clear r₂;refine⟨rfl,?_⟩;rw[stepG_spawn (d:=Uc Wg (E.cap bj)) (w':=w₂) (f:=.func 49) (c:=JY Wg (E.cap bj)) rfl rfl au (by simp[go_sem,Uc,JY,FB.cap,Deferred.ofValue]) rfl];generalize hL:listed _ _ _ _ _=Lx
 have hLx:Lx=#[]:=by rw[<-hL];simp[listed,go_sem,seen,Deferred.ofValue];rfl
 subst hLx;clear hL
 refine⟨_,_,j,[bj],rfl,rfl,λhx=>by have:=(Bf j).1 hx;omega,hj,λb hb=>avY,
  ⟨mw,hmw _ _ _ _ hE.len hE.cl rfl (aoj hF)⟩,λl' Fg=>(aeW r _ _ _).2 ⟨m1+1+1+1+1+1+1+1,?_⟩⟩
 walk_nrm;have hS:zL Wg C k n B L E s1 (w₂.out (book w₂.heap.size l')):=hF.sf.book (λb hb=>hF.sf.bs.lt ((Fg b).1 hb).1);clear hF;have BB:IntKind.i64.wrap ((j:Int)+1)=((j+1:Nat):Int):=gV
 (co_apply ay rfl;intro _ qC;replace hS:=zL.rely hS qC;clear qC;rw[aH];simp only[aI];refine⟨aG p_ _,?_⟩)
 (co_apply ay rfl;intro _ qC;replace hS:=zL.rely hS qC;clear qC;rw[stepG_inBlock];simp only[aI];refine⟨aG p_ _,?_⟩)
 (co_apply ay rfl;intro _ qC;replace hS:=zL.rely hS qC;clear qC;rw[cO,ng9];simp only[aI,List.range,List.range.loop];refine⟨aG p_ _,?_⟩;simp only[og9,qg9])
 (co_apply ay rfl;intro _ qC;replace hS:=zL.rely hS qC;clear qC
  refine goes_oper_k rfl rfl au (λKq uA=>?_)
  (skip)
  go_simp
  try(unfold stored;go_simp)
  refine uA _ _ ⟨?_,?_⟩
  ·(co_quiet p_)
  clear uA Kq
  try walk_nrm)
 (co_apply ay rfl;intro _ qC;replace hS:=zL.rely hS qC;clear qC
  refine goes_oper_k rfl rfl au (λKq uA=>?_)
  (skip)
  go_simp
  try(unfold stored;go_simp)
  refine uA _ _ ⟨?_,?_⟩
  ·(co_quiet p_)
  clear uA Kq
  try walk_nrm)
 (co_apply ay rfl;intro _ qC;replace hS:=zL.rely hS qC;clear qC;rw[aH];simp only[aI];refine⟨aG p_ _,?_⟩)
 subst hkk
 (co_apply ay rfl;intro _ qC;replace hS:=zL.rely hS qC;clear qC;rw[stepG_inLoop];simp only[aI];refine⟨aG p_ _,?_⟩)
 refine ih _ _ (j::ids) s1 (aiB rfl) hS (λx=>?_);rw[dA,Bf];omega
theorem spc(hE:PS E k n L){cs:List Frame}:∀(d j:Nat),j+d=n->∃m,∀(T:Array Value)(w:World)(ids:List Nat)(s0:Nat),TC E Wg n j T->zL Wg C k n B L E s0 w->(∀x,x∈ids↔x<j)->
  Goes prog true (Ro Wg C n B (λi=>¬i<n)) (Dg Wg C n B (λi=>¬i<n)) (StC Wg C k n B L E cs d ids) m (G ((base 29).at ⟨T,[]⟩ (.code zZ::.inLoop zZ::.inBlock 0::[.code aaO])) cs) w
 |0,j,hd=>by obtain rfl:j=n:=ae;exact aol (Wg:=Wg) (C:=C) (n:=j) (B:=B) (L:=L) (E:=E) (cs:=cs)
 |d+1,j,hd=>by obtain⟨m1,ih⟩:=spc hE d (j+1) ae;exact alZ hE ae d ih
def TB(E:FB)(Wg:Nat)(T:Array Value):Prop:=∃f:Nat->Value,T=#[f 0,f 1,f 2,.pointer (some ⟨E.bk,0,none⟩),f 4,f 5,f 6,.pointer (some ⟨E.bd,0,none⟩),.pointer (some ⟨E.ba,0,none⟩),.pointer (some ⟨Wg,0,none⟩),f 10,f 11,f 12,f 13,f 14,f 15,f 16,f 17,f 18,f 19,f 20,f 21,f 22,f 23,f 24,f 25]
theorem XA(hE:PS E k n L){cs:List Frame}{T:Array Value}{w:World}{s0:Nat}(hT:TB E Wg T)(hF:zL Wg C k n B L E s0 w):
  Sp prog link.tWg Wg C n B (· <n) (V7 C L (E.res k L)) (KC Wg C k n B L E cs) n [] (G ((base 29).at ⟨T,[]⟩ [.code zY]) cs) w:=by
 obtain⟨m,hm⟩:=spc (Wg:=Wg) (C:=C) (k:=k) (n:=n) (B:=B) (L:=L) (E:=E) hE (cs:=cs) n 0 ae;rw[aeW];co_apply Exists.intro;obtain⟨f,rfl⟩:=hT;rw[aiC]
 (co_apply ay rfl;intro _ qC;replace hF:=zL.rely hF qC;clear qC;rw[aC];simp only[aI];refine⟨aG p_ _,?_⟩)
 (co_apply ay rfl;intro _ qC;replace hF:=zL.rely hF qC;clear qC;rw[aC];simp only[aI];refine⟨aG p_ _,?_⟩)
 (co_apply ay rfl;intro _ qC;replace hF:=zL.rely hF qC;clear qC;rw[cO,ng4];simp only[aI,List.range,List.range.loop];refine⟨aG p_ _,?_⟩;simp only[og4,qg4])
 (co_apply ay rfl;intro _ qC;replace hF:=zL.rely hF qC;clear qC
  refine goes_oper_k rfl rfl au (λKq uA=>?_)
  (have h0:=hF.low.va)
  go_simp
  try(unfold stored;go_simp)
  refine uA _ _ ⟨?_,?_⟩
  ·(refine tK (b:=E.ba) (.inr hF.low.la) (by have:=hF.low.la.1;have:=hF.bs.hB;omega) ?_;co_evs (exact⟨_,rfl,rfl⟩))
  clear uA Kq
  try walk_nrm)
 clear h0
 (co_apply ay rfl;intro _ qC;replace hF:=zL.rely hF qC;clear qC
  refine goes_oper_k rfl rfl au (λKq uA=>?_)
  (skip)
  go_simp
  try(unfold stored;go_simp)
  refine uA _ _ ⟨?_,?_⟩
  ·(co_quiet p_)
  clear uA Kq
  try walk_nrm)
 (co_apply ay rfl;intro _ qC;replace hF:=zL.rely hF qC;clear qC
  refine goes_oper_k rfl rfl au (λKq uA=>?_)
  (skip)
  go_simp
  try(unfold stored;go_simp)
  refine uA _ _ ⟨?_,?_⟩
  ·(co_quiet p_)
  clear uA Kq
  try walk_nrm)
 (co_apply ay rfl;intro _ qC;replace hF:=zL.rely hF qC;clear qC;rw[aH];simp only[aI];refine⟨aG p_ _,?_⟩)
 (co_apply ay rfl;intro _ qC;replace hF:=zL.rely hF qC;clear qC;rw[jZ];simp only[aI];refine⟨aG p_ _,?_⟩)
 (co_apply ay rfl;intro _ qC;replace hF:=zL.rely hF qC;clear qC;rw[stepG_loop];simp only[aI];refine⟨aG p_ _,?_⟩)
 exact hm _ _ [] s0 (aiB rfl) hF (λx=>⟨λh=>jR,λh=>absurd h ae⟩)
end
end Go.Proofs.Y
namespace Go.Proofs.Y
open Go.Proofs.Tryz
open Go.RowKit Go.Deep Go.Lf Go.Conc Go.ConcN Go.Gh
open Go.ConcR (Payload WgAt wgBlock)
theorem sfC:∃fn,prog.funcs[29]?=some fn:=⟨_,func29⟩
noncomputable def gc3:Code:=qo (qo (qo zi))
noncomputable def qg3:{x:Array Oper//x=uk (qJ gc3)}:=⟨_,by simp only[gc3,zi,qJ,qo,uk,Tryz.f29,aB];rfl⟩
noncomputable def og3:Array Oper:=qg3.1
theorem anZ:gc3=.seq (.region 3 og3 false) zY:=ag
theorem ng3:og3.size=1:=ag
def TPc(bk bd ba:Nat)(T:Array Value):Prop:=∃f:Nat->Value,T=#[f 0,f 1,f 2,.pointer (some ⟨bk,0,none⟩),f 4,f 5,f 6,.pointer (some ⟨bd,0,none⟩),.pointer (some ⟨ba,0,none⟩),f 9,f 10,f 11,f 12,f 13,f 14,f 15,f 16,f 17,f 18,f 19,f 20,f 21,f 22,f 23,f 24,f 25]
theorem aom{bk bd ba:Nat}{T:Array Value}(h:T=#[T.getD 0 undef,T.getD 1 undef,T.getD 2 undef,.pointer (some ⟨bk,0,none⟩),T.getD 4 undef,T.getD 5 undef,T.getD 6 undef,.pointer (some ⟨bd,0,none⟩),.pointer (some ⟨ba,0,none⟩),T.getD 9 undef,T.getD 10 undef,T.getD 11 undef,T.getD 12 undef,T.getD 13 undef,T.getD 14 undef,T.getD 15 undef,T.getD 16 undef,T.getD 17 undef,T.getD 18 undef,T.getD 19 undef,T.getD 20 undef,T.getD 21 undef,T.getD 22 undef,T.getD 23 undef,T.getD 24 undef,T.getD 25 undef]):TPc bk bd ba T:=⟨λi=>T.getD i undef,h⟩
structure PFc(k n L:Nat)(l:List UInt8)(bk bd P F ba C:Nat)(w:World):Prop where
 vk:w.cell? ⟨bk,0,none⟩=some (.int .i64 ((k:Nat):Int))
 vd:w.cell? ⟨bd,0,none⟩=some (.slice (some ⟨P,0,none⟩) k k)
 hP:∀j,j<k->w.cell? ⟨P,j,none⟩=some (.slice (some ⟨F,j*L,none⟩) L (k*L-j*L))
 hF:∀i,i<k*L->w.cell? ⟨F,i,none⟩=some (.int .u8 ((tJ l i:Nat):Int))
 va:w.cell? ⟨ba,0,none⟩=some (.slice (some ⟨C,0,none⟩) n n)
 pay:w.heap[C]?=some (.cells (madeCells #[.slice none 0 0] n) 34)
 new:bk<C/\bd<C/\P<C/\F<C/\C<ba/\ba<w.heap.size
section
variable {X:Nat->Prop}{Y:Nat->Option Obj}{D:Nat->World->Array Event->Prop}{Stop:Goroutine->World->Prop}{w:World}{k n:Nat}{l:List UInt8}{vd:Value}
theorem QN(hD:vw X D){cs:List Frame}(hk0:1<=k)(hkn:k<=n)(hn:n<=128)(hl:l.length<=65536)(hv:qR w vd (r_ l))
  (qH:∀(bk bd P F ba C:Nat)(T:Array Value)(w1:World),TPc bk bd ba T->PFc k n (tX k l.length) l bk bd P F ba C w1->(∀b,b<w.heap.size->b<C)->(w.heap.size<=bk/\w.heap.size<=bd/\w.heap.size<=P/\w.heap.size<=F)->sK w.heap.size w w1->uh prog X Y D Stop 29 cs [.code gc3] ⟨T,[]⟩ w1):
  uh prog X Y D Stop 29 cs [.code zi] ⟨#[.int .i64 ((k:Nat):Int),.int .i64 ((n:Nat):Int),vd]++Array.replicate 23 undef,[]⟩ w:=by
 unfold zi;simp only[Tryz.f29,aB,cu,b_,bU,bY,bg,aV]
 have one:∀(u:World)(x:Value)(t:TypeId),(u.alloc (.cells #[x] t)).rowIs u.heap.size t 1 (λ_=>x):=λu x t=>World.rowIs_alloc u #[x] t (λ_=>x) (λi hi=>by obtain rfl:i=0:=iK;rfl)
 refine qQ qK hD ag rfl sfC λR hR τ d'=>?_
 have hvA:qR ({w with tape:=τ,drawn:=d'}:World) vd (r_ l):=hv;have hzA:({w with tape:=τ,drawn:=d'}:World).heap.size<=w.heap.size:=ak _;have hzB:w.heap.size<=({w with tape:=τ,drawn:=d'}:World).heap.size:=ak _;have hbA:sK w.heap.size w {w with tape:=τ,drawn:=d'}:=(sK.refl _ w).tp τ d';generalize({w with tape:=τ,drawn:=d'}:World)=wA at hvA hzA hzB hbA⊢;have y0:=one wA (.int .i64 ((k:Nat):Int)) 3;have b0:Below wA.heap.size wA (wA.alloc (.cells #[.int .i64 ((k:Nat):Int)] 3)):=(aA _ _).alloc (ak _) _;have s0:(wA.alloc (.cells #[.int .i64 ((k:Nat):Int)] 3)).heap.size=wA.heap.size+1:=ai;go_wp2;have hv0:=hvA.below b0;have bl0:=hbA.trans (sK.of b0) hzB;generalize wA.alloc (.cells #[.int .i64 ((k:Nat):Int)] 3)=w0 at y0 b0 s0 hv0 bl0⊢;clear b0;refine qQ qK hD ag rfl sfC λR hR τ d'=>?_
 replace hv0:qR ({w0 with tape:=τ,drawn:=d'}:World) vd (r_ l):=hv0;replace y0:({w0 with tape:=τ,drawn:=d'}:World).rowIs wA.heap.size 3 1 (λ_=>.int .i64 ((k:Nat):Int)):=y0;replace s0:({w0 with tape:=τ,drawn:=d'}:World).heap.size=wA.heap.size+1:=s0;replace bl0:=bl0.tp τ d';generalize({w0 with tape:=τ,drawn:=d'}:World)=w0 at hv0 y0 s0 bl0⊢;generalize IG:wA.heap.size=bk at*;have c1:=alg k hk0 ae vd l hl w0 hv0;have g0:=y0.cell (i:=0) ae
 go_wp2_with(first|(go_at_call 47;(with_reducible refine c1.mono ?_);rintro e w1 ⟨P,F,rfl,hPc⟩))
 have hlo:=hPc.lo;have t_:=hPc.AZ;have arR:=hPc.list.lt;have arS:=hPc.row.lt;have x9:=t_.size;have v1:=one w1 (.slice (some ⟨P,0,none⟩) k k) 28;have s2:(w1.alloc (.cells #[.slice (some ⟨P,0,none⟩) k k] 28)).heap.size=w1.heap.size+1:=ai;have ba1:Below w1.heap.size w1 (w1.alloc (.cells #[.slice (some ⟨P,0,none⟩) k k] 28)):=(aA _ _).alloc (ak _) _;have KJ:=(bl0.trans (sK.of t_) ae).trans (sK.of ba1) ae;have y1:=(y0.of_block (t_.block bk ae)).of_block (ba1.block bk ae);have hls:=hPc.list.of_block (ba1.block P arR);have hrw:=hPc.row.of_block (ba1.block F arS);generalize w1.alloc (.cells #[.slice (some ⟨P,0,none⟩) k k] 28)=wB at v1 s2 KJ y1 hls hrw⊢;generalize hbd:w1.heap.size=bd at*;clear hPc t_ c1 g0 hv0 ba1;refine qQ qK hD ag rfl sfC λR hR τ d'=>?_
 replace hls:({wB with tape:=τ,drawn:=d'}:World).rowIs _ _ _ _:=hls;replace hrw:({wB with tape:=τ,drawn:=d'}:World).rowIs _ _ _ _:=hrw;replace y1:({wB with tape:=τ,drawn:=d'}:World).rowIs _ _ _ _:=y1;replace v1:({wB with tape:=τ,drawn:=d'}:World).rowIs _ _ _ _:=v1;replace s2:({wB with tape:=τ,drawn:=d'}:World).heap.size=bd+1:=s2;replace KJ:=KJ.tp τ d';generalize({wB with tape:=τ,drawn:=d'}:World)=wB at hls hrw y1 v1 s2 KJ⊢;have m2:=Eg n hn wB;rw[s2]at m2;generalize hZ:madeCells #[.slice none 0 0] n=Z at*
 have z2:(wB.alloc (.cells Z 34)).heap[bd+1]?=some (.cells Z 34):=by have:=dO wB (.cells Z 34);rwa[s2]at this
 have s3:(wB.alloc (.cells Z 34)).heap.size=bd+2:=by simp[s2]
 have v2:=v1.alloc (.cells Z 34);have b2:Below (bd+1) wB (wB.alloc (.cells Z 34)):=(aA _ _).alloc ae _;go_wp2;generalize wB.alloc (.cells Z 34)=w2 at z2 s3 v2 b2⊢;have v3:=one w2 (.slice (some ⟨bd+1,0,none⟩) n n) 28;rw[s3]at v3;have b3:=b2.alloc ae (.cells #[.slice (some ⟨bd+1,0,none⟩) n n] 28);have z3:(w2.alloc (.cells #[.slice (some ⟨bd+1,0,none⟩) n n] 28)).heap[bd+1]?=some (.cells Z 34):=(bM _ _ _ ae).trans z2;have v4:=v2.alloc (.cells #[.slice (some ⟨bd+1,0,none⟩) n n] 28);have s4:(w2.alloc (.cells #[.slice (some ⟨bd+1,0,none⟩) n n] 28)).heap.size=bd+3:=by simp[s3]
 generalize w2.alloc (.cells #[.slice (some ⟨bd+1,0,none⟩) n n] 28)=w3 at*;have y3:=y1.of_block (b3.block bk ae);have l3:=hls.of_block (b3.block P ae);have f3:=hrw.of_block (b3.block F ae);refine qH bk bd P F (bd+2) (bd+1) _ w3 (aom rfl) ⟨y3.cell (i:=0) ae,v4.cell (i:=0) ae,λj hj=>l3.cell hj,λi hi=>f3.cell hi,v3.cell (i:=0) ae,by rw[hZ];exact z3,⟨ae,ae,ae,ae,ae,ae⟩⟩ (λb hb=>ae) ⟨ae,ae,ae,ae⟩ (KJ.trans (sK.of b3) ae)
end
section
variable {k n L:Nat}
def GX(F k L:Nat)(l:List UInt8)(j:Nat):Ub:=⟨some ⟨F,j*L,none⟩,F,j*L,k*L-j*L,(List.range L).map λm=>tJ l (j*L+m)⟩
def Iw(k L:Nat)(l:List UInt8)(bk bd P F ba:Nat)(h0:Nat->Option Obj):FB:={ba:=ba,bk:=bk,bd:=bd,bD:=P,oD:=0,cD:=k,cs:=(List.range k).map (GX F k L l),h0:=h0}
theorem F_{n i j:Nat}(h:(List.range n)[i]?=some j):i<n/\j=i:=by obtain⟨h1,h2⟩:=dS.1 h;simp at h1 h2;exact⟨h1,h2.symm⟩
theorem aeI{l:List UInt8}{bk bd P F ba:Nat}{h0:Nat->Option Obj}(hk:0<k/\k<=128)(hn:n<=128)(hL:L<=140737488355328):PS (Iw k L l bk bd P F ba h0) k n L:=by refine⟨hk.1,hk.2,hn,hL,by simp[Iw],λc hc=>?_⟩;simp only[Iw,fA]at hc;obtain⟨j,_,rfl⟩:=hc;refine⟨by simp[GX,Dl],λy hy=>?_⟩;simp only[GX,fA]at hy;obtain⟨m,_,rfl⟩:=hy;unfold tJ;exact(l.getD _ 0).toNat_lt
theorem uG{W:World}{b o:Nat}{u:Value}(x:Obj)(h:W.cell? ⟨b,o,none⟩=some u):(W.alloc x).cell? ⟨b,o,none⟩=some u:=by have hb:=rM h;simp only[World.cell?,bM _ _ _ hb]at h⊢;exact h
theorem Ei{X:Nat->Prop}{Y:Nat->Option Obj}{w v:World}{b:Nat}{c:Array Value}{t:TypeId}{fr:Nat×Nat}(h:xE X Y w v)(hx:¬X b)(hb:v.heap[b]?=some (.cells c t fr)):w.heap[b]?=some (.cells c t fr):=by
 cases hy:Y b with
 |none=>rw[h.same b hx hy];exact hb
 |some o=>
  obtain⟨o',_,h2,hg⟩:=h.gho b _ hy;rw[hb]at h2;cases h2;rcases hg with⟨_,_,_,h4⟩|⟨_,_,_,h4⟩<;>cases h4
theorem Xz[Payload][qV](DW:Payload.ety=34){X:Nat->Prop}{Y:Nat->Option Obj}{v3 W:World}{l:List UInt8}{lw bk bd P F ba C:Nat}(hold:∀b,qV.old b->b<lw)(hX:∀b,X b->b<lw)(VF:lw<=bk/\lw<=bd/\lw<=P/\lw<=F)(hs:xE X Y W v3)(hP:PFc k n L l bk bd P F ba C v3){Wg:Nat}(Xy:W.heap.size=Wg+1)(hba:ba<Wg):
  zL Wg C k n (Wg+1) L (Iw k L l bk bd P F ba (λb=>W.heap[b]?)) (Wg+1) (gw W []):=by
 obtain⟨n1,n2,n3,n4,n5,n6⟩:=hP.new;have hsz:=hs.size;have st:∀{b o:Nat}{u:Value},v3.cell? ⟨b,o,none⟩=some u->(gw W []).cell? ⟨b,o,none⟩=some u:=λ{b o u} h=>(show W.cell? ⟨b,o,none⟩=some u from N7 hs h);have lo:∀{b:Nat},b<Wg->b≠C->lw<=b->LoC Wg C (Wg+1) b:=λ{b} h h' hl=>⟨ae,ae,h',λho=>by have:=hold b ho;omega⟩;have ahf:(gw W []).heap.size=Wg+1:=Xy
 have hcs:∀{t:Nat}{c:Ub},((List.range k).map (GX F k L l))[t]?=some c->t<k/\c=GX F k L l t:=λ{t c} e=>by exact ax2
 refine⟨⟨?_,ae,ae,λb hb=>?_⟩,⟨madeCells #[.slice none 0 0] n,?_,gX _ _⟩,⟨lo (b:=ba) ae ae ae,lo (b:=bk) ae ae ae,lo (b:=bd) ae ae ae,lo (b:=P) ae ae ae,st hP.va,st hP.vk,st hP.vd,λj c e=>?_,λc hc=>?_,λb _ _ _=>rfl⟩,⟨ae,ae,ae⟩⟩
 .unfold gw;rw[xA];exact ak _
 .unfold gw at hb;rw[vH]at hb;cases hb
 .exact axH
 .obtain⟨h1,rfl⟩:=hcs e;simp only[Iw,GX,aT];exact st (hP.hP j h1)
 .simp only[Iw,fA,fK]at hc;obtain⟨t,ht,rfl⟩:=hc;refine⟨lo (by show F<_;omega) (by show F≠C;omega) (by show lw<=F;omega),λ_=>rfl,λi y e=>?_⟩;simp only[GX,bV]at e⊢;obtain⟨j',Pq,rfl⟩:=bT.1 e;obtain⟨h1,rfl⟩:=F_ Pq;refine st (hP.hF _ ?_);have:t*L+L<=k*L:=by rw[<-fD];exact ji L ht
  omega
theorem aeL{W v:World}{X:Nat->Prop}{b o:Nat}{u:Value}(hk:∀b c t fr,¬X b->W.heap[b]?=some (.cells c t fr)->v.heap[b]?=some (.cells c t fr))(hb:¬X b)(h:W.cell? ⟨b,o,none⟩=some u):v.cell? ⟨b,o,none⟩=some u:=by
 have h':=h;unfold World.cell? at h';cases e:W.heap[b]? with
 |none=>simp only[e]at h';cases h'
 |some x=>
  cases x with
  |cells c t fr=>
   have:=hk b c t fr hb e;simp only[World.cell?,e]at h;simp only[World.cell?,this];exact h
  |_=>simp only[e]at h';cases h'
theorem aeJ[Payload][qV]{X:Nat->Prop}{Y:Nat->Option Obj}{w2 v3 W W' v':World}{s0:Nat}{lb ids:List Nat}{l:List UInt8}{bk bd P F ba C:Nat}(hs:xE X Y W v3){Wg:Nat}(Xy:W.heap.size=Wg+1)(arN:ba<Wg)(hb:sK w2.heap.size w2 v3)(uy:∀b,b<w2.heap.size->b<C)(hP:PFc k n L l bk bd P F ba C v3)
  (hk:∀b c t fr,¬(X b\/b=Wg)->W'.heap[b]?=some (.cells c t fr)->v'.heap[b]?=some (.cells c t fr)) (hX:∀b,X b->b<w2.heap.size)
  (hF:zL Wg C k n (Wg+1) L (Iw k L l bk bd P F ba (λb=>W.heap[b]?)) s0 (gw W' lb)) (Bf:∀x,x∈ids↔x<n)
  (BF:∀x∈ids,∃v l',Has C x v W'/\V7 C L ((Iw k L l bk bd P F ba (λb=>W.heap[b]?)).res k L) x v (gw W' l')/\∀b∈l',Wg+1<=b):
  (∃dN:Nat->Nat,∀t,t<n->v'.cell? ⟨C,t,none⟩=some (.slice (some ⟨dN t,0,none⟩) L L)/\v'.heap[dN t]?=some (.cells (tV ((Iw k L l bk bd P F ba (λb=>W.heap[b]?)).res k L t)) 5))/\(∀{b o:Nat}{u:Value},w2.cell? ⟨b,o,none⟩=some u->v'.cell? ⟨b,o,none⟩=some u)/\v'.cell? ⟨ba,0,none⟩=some (.slice (some ⟨C,0,none⟩) n n):=by
 obtain⟨n1,n2,n3,n4,n5,n6⟩:=hP.new;have hsz:=hs.size;have up:∀{b o:Nat}{u:Value},¬X b->b≠Wg->W'.cell? ⟨b,o,none⟩=some u->v'.cell? ⟨b,o,none⟩=some u:=λhx hb h=>aeL (X:=λb=>X b\/b=Wg) hk (λe=>e.elim hx hb) h
 have lw:∀{b o:Nat}{u:Value},b<Wg->b≠C->v3.cell? ⟨b,o,none⟩=some u->v'.cell? ⟨b,o,none⟩=some u:=λ{b o u} h h' hc=>by exact ax7
 have l2:∀{b o:Nat}{u:Value},w2.cell? ⟨b,o,none⟩=some u->v'.cell? ⟨b,o,none⟩=some u:=λ{b o u} hc=>by have h1:b<w2.heap.size:=rM hc;have h2:=uy _ h1;exact lw (by have:=hb.sH;omega) ae ((Below.cell (p:=⟨b,o,none⟩) hb h1).trans hc)
 have akI:∀t,t<n->∃N',v'.cell? ⟨C,t,none⟩=some (.slice (some ⟨N',0,none⟩) L L)/\v'.heap[N']?=some (.cells (tV ((Iw k L l bk bd P F ba (λb=>W.heap[b]?)).res k L t)) 5):=by intro t ht;obtain⟨v,l',h1,⟨N',rfl,hmn,_,h2⟩,Fg⟩:=BF t ((Bf t).2 ht);have hN':=Fg N' ((yK W' l' N').1 hmn);refine⟨N',up (λhx=>by have:=hX C hx;have:=uy C this;omega) ae h1,hk N' _ _ _ (λe=>?_) h2⟩;have e:=e.resolve_left (λhx=>by have:=hX N' hx;have:=uy N' this;omega);omega
 refine⟨⟨λt=>if h:t<n then(akI t h).choose else 0,λt ht=>?_⟩,l2,lw ae ae hP.va⟩;simp only[j_ ht];exact(akI t ht).choose_spec
end
structure Kept(w w':World):Prop where
 os:w'.os=w.os
 output:w'.output=w.output
 size:w.heap.size<=w'.heap.size
 block:∀b,b<w.heap.size->w'.heap[b]?=w.heap[b]?
theorem xE.agree{X:Nat->Prop}{Y:Nat->Option Obj}{w w' v v':World}(h:xE X Y w v)(h':xE X Y w' v'){b:Nat}(hx:¬X b)(e:v'.heap[b]?=v.heap[b]?):w'.heap[b]?=w.heap[b]?:=by
 cases hy:Y b with
 |none=>rw[h.same b hx hy,h'.same b hx hy,e]
 |some o=>
  obtain⟨_,h1,_⟩:=h.gho b o hy;obtain⟨_,h2,_⟩:=h'.gho b o hy;rw[h1,h2]
section
variable {P:Program}{F:FuncId->Bool}{X:Nat->Prop}{Y:Nat->Option Obj}{D:Nat->World->Array Event->Prop}{Stop:Goroutine->World->Prop}{f:FuncId}{k:List Item}{cs:List Frame}{a:Act}{v:World}{ops:Array Oper}{i:Nat}{rest:List Nat}{o:Oper}
end
section
variable {X:Nat->Prop}{Y:Nat->Option Obj}{D:Nat->World->Array Event->Prop}{Stop:Goroutine->World->Prop}{v:World}{n C Wg j:Nat}{E:FB}{cs:List Frame}{f:Frame}
theorem am1(hD:vw X D){T:Array Value}{ops:Array Oper}(hT:TC E Wg n j T)(hba:v.cell? ⟨E.ba,0,none⟩=some (.slice (some ⟨C,0,none⟩) n n))
  (VJ:∀τ d,∀w,qL X Y w {v with tape:=τ,drawn:=d}->rV prog D Stop (G (f.finish (.slice (some ⟨C,0,none⟩) n n)) cs) w):
  uh prog X Y D Stop 29 (f::cs) (.inRegion ops []::[.code aeV]) ⟨T,[]⟩ v:=by
 have hD0:vw X D:=hD;obtain⟨f0,rfl⟩:=hT;refine aaC hD0 ?_;unfold aeV;simp only[aqd,aqc];refine qQ qK hD ag rfl sfC λR hR τ d'=>?_
 have t_:({v with tape:=τ,drawn:=d'}:World).cell? ⟨E.ba,0,none⟩=some (.slice (some ⟨C,0,none⟩) n n):=hba;have hv1:=VJ τ d';generalize{v with tape:=τ,drawn:=d'}=v1 at t_ hv1⊢;go_wp2;refine Jd (y:=.slice (some ⟨C,0,none⟩) n n) hD rfl func29 (λτ d=>?_) hv1;exact lV (fn:=Tryz.f29) (t:=6) rfl _ _ _
