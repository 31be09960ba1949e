import Derived.Test.YtnbflnamlpodcaaGreatDoorCoV
import Derived.Test.YtnbflnamlpodcaaGreatDoorCoJ
set_option maxHeartbeats 4000000
set_option maxRecDepth 100000
namespace Go.Proofs.Y
open Go.Proofs.Tryz
open Go.Conc Go.ConcN Go.RowKit Go.Gh Go.Conc.Lib Go.ConcR.Gen Go.ConcN.Gen
open Go.ConcR (Payload)
structure Zr where
 ba:Nat
 bj:Nat
 bk:Nat
 bd:Nat
 bD:Nat
 oD:Nat
 cD:Nat
theorem Yb{P:aN}{main:Bool}{R:ah->ah->Prop}{D:ah->ah->aH->Prop}{f:aU}{args:aB}{n m:Nat}{w:ah}{Post:ai->ah->Prop}(h:CallsC P main R D f args n w Post)(hn:n<=m):CallsC P main R D f args m w Post:=
 let⟨fn,c,h1,h2,h3,h4⟩:=h
 ⟨fn,c,h1,h2,h3,wpC_more h4 hn⟩
section
variable [Payload][rq]{main:Bool}{Wg C n B:Nat}{Cl:Nat->Prop}
structure WIc(Wg C n B:Nat)(c:Zr)(k L idx:Nat)(cs:List UK)(w:ah):Prop where
 bs:Bs C B w
 pay:PayAt C n w
 ra:TD Wg C B w c.ba
 va:w.cell? ⟨c.ba,0,none⟩=some (.slice (some ⟨C,0,none⟩) n n)
 rj:TD Wg C B w c.bj
 vj:w.cell? ⟨c.bj,0,none⟩=some (.int .i64 ((idx:Nat):Int))
 rk:TD Wg C B w c.bk
 vk:w.cell? ⟨c.bk,0,none⟩=some (.int .i64 ((k:Nat):Int))
 rd:TD Wg C B w c.bd
 vd:w.cell? ⟨c.bd,0,none⟩=some (.slice (some ⟨c.bD,c.oD,none⟩) k c.cD)
 rc:TD Wg C B w c.bD
 hc:∀j d,cs[j]?=some d->w.cell? ⟨c.bD,c.oD+j,none⟩=some (.slice d.bs L d.co)
 xR:∀d∈cs,TD Wg C B w d.bo/\(0<L->d.bs=some ⟨d.bo,d.oo,none⟩)/\∀i y,d.ys[i]?=some y->w.cell? ⟨d.bo,d.oo+i,none⟩=some (.int .u8 ((y:Nat):Int))
theorem WIc.ex{w w₁:ah}{c:Zr}{k L idx:Nat}{cs:List UK}(h:WIc Wg C n B c k L idx cs w)(hb:Bs C B w₁)(r:Ex Wg C n B Cl (λ_=>False) w w₁):WIc Wg C n B c k L idx cs w₁:=by
 have st:∀{b:Nat},TD Wg C B w b->∀o,w₁.cell? ⟨b,o,none⟩=w.cell? ⟨b,o,none⟩:=λhb o=>awi
 exact⟨hb,r.pay h.pay,r.rdb h.ra,(st h.ra _).trans h.va,r.rdb h.rj,(st h.rj _).trans h.vj,r.rdb h.rk,(st h.rk _).trans h.vk,r.rdb h.rd,(st h.rd _).trans h.vd,r.rdb h.rc,λj d e=>(st h.rc _).trans (h.hc j d e),λd hd=>let⟨h1,h2,h3⟩:=h.xR d hd;⟨r.rdb h1,h2,λi y e=>(st h1 _).trans (h3 i y e)⟩⟩
theorem WIc.rely{w w₁:ah}{c:Zr}{k L idx:Nat}{cs:List UK}(h:WIc Wg C n B c k L idx cs w)(r:Ro Wg C n B Cl w w₁):WIc Wg C n B c k L idx cs w₁:=h.ex (h.bs.rely r) r.ex
theorem WIc.cin{w:ah}{c:Zr}{k L idx N:Nat}{ws:aA}{cs:List UK}(h:WIc Wg C n B c k L idx cs w)(hm:qZ w N)(hx:w.heap[N]?=some (.cells (uh ws) 5)):CIn Wg C B N 0 c.bD c.oD L ws cs w:=
 ⟨.inl hm,h.bs.lt hm,h.rc,h.bs.z_ h.rc,λj x e=>by rw[bM,cell_of _ hx,yK,e];rfl,h.hc,λd hd=>let⟨h1,h2,h3⟩:=h.xR d hd;⟨h1,h.bs.z_ h1,h2,h3⟩⟩
def w0C:aJ:=baseD 49
noncomputable def OQ:aJ:={(default:aJ)with fn:=prog.funcs.size,defers:=[],mode:=.panicking [goexitEntry]}
noncomputable def adv:Code:=Tryz.f49.body.getD .skip
def Lh(Wg:Nat)(c:Zr):aB:=#[.pointer (some ⟨Wg,0,none⟩),.pointer (some ⟨c.bk,0,none⟩),.pointer (some ⟨c.bj,0,none⟩),.pointer (some ⟨c.bd,0,none⟩),.pointer (some ⟨c.ba,0,none⟩)]
def UL(Wg:Nat)(c:Zr):Deferred:={target:=.fn (.func 49) (Lh Wg c),args:=#[]}
omit [Payload][rq]in
theorem al2(c:Zr)(w:ah):stepG prog false (born prog (UL Wg c)) w=.go (G (w0C.at ⟨Lh Wg c++Array.replicate 8 undef,[]⟩ [.code adv]) [OQ]) w #[]:=by simp[born,UL,Lh,stepG,unwind,callDeferred,invoke,callFunc,func49,Tryz.f49,seen,GStep.after,G,Frame.enter,Frame.at,w0C,baseD,OQ,adv]
omit [Payload][rq]in
theorem aiv(T:aB):QuitsD prog 2 0 (G {w0C.at ⟨T,[]⟩ []with mode:=.returning} [OQ]):=by
 refine QuitsD.ctl (g':=G OQ []) rfl (λw=>?_) ?_
 .simp[G,stepG,unwind,doReturn,results,Frame.at,w0C,baseD,OQ,func49,Tryz.f49,seen,GStep.after,goexitEntry]
 refine QuitsD.ctl (g':={G OQ []with status:=.finished}) rfl (λw=>?_) ⟨rfl,rfl⟩;simp[G,stepG,unwind,OQ,goexitEntry,Frame.catches];rfl
theorem aoD(k L:Nat)(hk0:0<k)(hk:k<=128)(hn:n<=128)(hL:L<=140737488355328)(idx:Nat)(alk:idx<n):∃m,∀(w:ah)(c:Zr)(cs:List UK)(res:Nat->aA),cs.length=k->(∀c∈cs,DU c.ys L/\∀y∈c.ys,y<256)->
  res idx=comb (FC ((List.range k).map (uB k idx)) cs) (List.replicate L 0)->WIc Wg C n B c k L idx cs w->Wk prog link.tWg Wg C n B (W_ C L res) idx m (born prog (UL Wg c)) w:=by
 obtain⟨q1,hq1⟩:=aqZ (main:=false) (Wg:=Wg) (C:=C) (n:=n) (B:=B) (Cl:=(· =idx)) k idx hk ag;obtain⟨q2,hq2⟩:=Yc (main:=false) (Wg:=Wg) (C:=C) (n:=n) (B:=B) (Cl:=(· =idx)) k L hk0 hk hL;refine⟨?m,λw c cs res hlc hcs Ce hF=>?_⟩
 case m=>exact(3+(9*(max q1 q2+3)+1+1))+1+1+1+1+1
 have hiI:(idx:Int)<(n:Int):=ag;have T:=qj (Wg:=Wg) (C:=C) (n:=n) (B:=B) (Cl:=(· =idx));have hlr:DU ((List.range k).map (uB k idx)) k:=by simp[DU]
 have Za:∀x∈(List.range k).map (uB k idx),x<256:=λx hx=>by obtain⟨j,_,rfl⟩:=gz.1 hx;exact D7
 unfold Wk;refine aO rfl λw₁ h₁=>?_
 replace hF:=hF.rely h₁;clear h₁;rw[al2];refine⟨T.idle _,?_⟩;simp only[Lh,adv,Tryz.f49,aQ,dR,dQ,dM,dP,dA,bT];refine aO rfl λw₁ h₁=>?_
 replace hF:=hF.rely h₁;clear h₁;rw[aW];refine⟨T.idle _,?_⟩;refine aO rfl λw₁ h₁=>?_
 replace hF:=hF.rely h₁;clear h₁;rw[dS];refine⟨T.idle _,?_⟩;simp only[fU,dJ,dY,bM,List.range,List.range.loop];refine aO rfl λw₁ h₁=>?_
 replace hF:=hF.rely h₁;clear h₁;rw[stepG_defer rfl rfl aC rfl];refine⟨T.idle _,?_⟩;walk_nrm;refine aO rfl λw₁ h₁=>?_
 replace hF:=hF.rely h₁;clear h₁;rw[bf];refine⟨T.idle _,?_⟩;refine wpC_goes (m:=3) (Q:=λe a' w'=>e=.normal/\a'.defers=[dcall 50 #[.pointer (some ⟨Wg,0,none⟩)]]/\∃v,WD1 C L res idx v w') (AX T ae5 (S:=WIc Wg C n B c k L idx cs) (lst:=8) (nf:=max q1 q2) aj (λw₁ h₁=>?_)) rfl aC ?_
 .replace hF:WIc Wg C n B c k L idx cs {w₁ with drawn:=w₁.drawn+1}:=by
   have:=hF.rely h₁;exact⟨⟨this.bs.tg,this.bs.hC,this.bs.hB,this.bs.ow⟩,this.pay,this.ra,this.va,this.rj,this.vj,this.rk,this.vk,this.rd,this.vd,this.rc,this.hc,this.xR⟩
  clear h₁;have Oj:∀x y,WIc Wg C n B c k L idx cs x->Ro Wg C n B (· =idx) x y->WIc Wg C n B c k L idx cs y:=λ_ _ h r=>h.rely r
  have Ti:∀(a:Act)(x y:ah),(Exit.normal=.normal/\a.defers=[dcall 50 #[.pointer (some ⟨Wg,0,none⟩)]]/\∃v,WD1 C L res idx v x)->Ro Wg C n B (· =idx) x y->(Exit.normal=.normal/\a.defers=[dcall 50 #[.pointer (some ⟨Wg,0,none⟩)]]/\∃v,WD1 C L res idx v y):=λa x y ⟨h1,h2,v,h3⟩ r=>⟨h1,h2,v,h3.rely r⟩
  generalize{w₁ with drawn:=w₁.drawn+1}=w2 at hF⊢;simp only[fU,dJ,dY,Nat.reduceAdd,bM]
  (co_applyP sS T Oj Ti (i:=0) rfl aj aj aj aj aj (.inl ⟨aI,λ_ hw=>⟨run_eq_of ?aa1,?UM⟩⟩) hF ?aiw
   case aa1=>
    intro Kq uK
    (have h1:=hw.va)
    exact ayi
   case UM=>
    (have h1:=hw.va)
    (refine ui hw.ra (hw.bs.z_ hw.ra) ?_;co_evs (exact⟨_,rfl,rfl⟩))
   try walk_nrm)
  (co_applyP sS T Oj Ti (i:=1) rfl aj aj aj aj aj (.inl ⟨aI,λ_ hw=>⟨run_eq_of ?aa2,?UN⟩⟩) hF ?aix
   case aa2=>
    intro Kq uK
    (have h1:=hw.vj)
    exact ayi
   case UN=>
    (have h1:=hw.vj)
    (refine ui hw.rj (hw.bs.z_ hw.rj) ?_;co_evs (exact⟨_,rfl,rfl⟩))
   try walk_nrm)
  (co_applyP sS T Oj Ti (i:=2) rfl aj aj aj aj aj (.inl ⟨aI,λ_ hw=>⟨run_eq_of ?aa3,?UO⟩⟩) hF ?aiy
   case aa3=>
    intro Kq uK
    (have h1:=hw.vk)
    exact ayi
   case UO=>
    (have h1:=hw.vk)
    (refine ui hw.rk (hw.bs.z_ hw.rk) ?_;co_evs (exact⟨_,rfl,rfl⟩))
   try walk_nrm)
  (co_applyP sS T Oj Ti (i:=3) rfl aj aj aj aj aj (.inl ⟨aI,λ_ hw=>⟨run_eq_of ?aa4,?UQ⟩⟩) hF ?aiz
   case aa4=>
    intro Kq uK
    (have h1:=hw.vj)
    exact ayi
   case UQ=>
    (have h1:=hw.vj)
    (refine ui hw.rj (hw.bs.z_ hw.rj) ?_;co_evs (exact⟨_,rfl,rfl⟩))
   try walk_nrm)
  (co_applyP sS T Oj Ti (i:=5) rfl aj aj aj aj aj (.inl ⟨aI,λ_ hw=>⟨run_eq_of ?aiA,?adw⟩⟩) hF ?aoE
   case aiA=>
    intro Kq uK
    (have h1:=hw.vd)
    exact ayi
   case adw=>
    (have h1:=hw.vd)
    (refine ui hw.rd (hw.bs.z_ hw.rd) ?_;co_evs (exact⟨_,rfl,rfl⟩))
   try walk_nrm)
  refine GL (i:=4) aj ⟨_,rfl,.inr (.inl ⟨aI,_,_,_,(λv w'=>∃N,v=.slice (some ⟨N,0,none⟩) k k/\CG Wg C n B (· =idx) w2 N ((List.range k).map (uB k idx)) w'),rfl,by walk_nrm;exact Yb (hq1 w2 hF.bs) (oV _ _),?_⟩)⟩;rintro v w3 ⟨N1,rfl,Tf⟩;replace hF:=hF.ex Tf.bs Tf.ex;refine⟨λ_=>hF,?_⟩;walk_nrm;refine GL (i:=6) aj ⟨_,rfl,.inr (.inl ⟨aI,_,_,_,(λv w'=>∃N,v=.slice (some ⟨N,0,none⟩) L L/\CG Wg C n B (· =idx) w3 N (comb (FC ((List.range k).map (uB k idx)) cs) (List.replicate L 0)) w'),rfl,by walk_nrm;exact Yb (hq2 w3 N1 0 k c.bD c.oD c.cD _ cs hlr hlc Za hcs hF.bs (hF.cin Tf.mn Tf.hx)) (oU _ _),?_⟩)⟩;rintro v w' ⟨N,rfl,hg⟩;have hN:N≠C:=ax2;replace hF:=hF.ex hg.bs hg.ex;have hwp:W_ C L res idx (.slice (some ⟨N,0,none⟩) L L) w':=⟨N,rfl,hg.mn,hN,by rw[Ce];exact hg.hx⟩;clear hg;refine⟨λ_=>hF,?_⟩;walk_nrm;refine BK (i:=7) aj rfl aI (λw₁ hR K hK=>?_);replace hF:=hF.rely hR;replace hwp:=hwp.rely hR;clear hR;go_simp;refine hK _ _ ⟨?_,λ_=>hF,?_⟩
  .co_still T
  clear hK K;walk_nrm;refine BK (i:=8) aj rfl aI (λw₁ hR K hK=>?_);replace hF:=hF.rely hR;replace hwp:=hwp.rely hR;clear hR
  obtain⟨u,hu1,hu2⟩:∃u,w₁.cell? ⟨C,idx,none⟩=some u/\w₁.frozen? ⟨C,idx,none⟩=false:=by exact ay8
  go_simp
  try(unfold stored;go_simp)
  refine hK _ _ ⟨?_,λh=>absurd rfl h,?_⟩
  .refine Zt (Cl:=(· =idx)) hF.pay hF.bs.hC (i:=idx) rfl _ ?_
   co_evs (exact⟨_,rfl⟩)
  clear hK K;walk_nrm;refine Le aj ⟨rfl,rfl,.slice (some ⟨N,0,none⟩) L L,⟨N,rfl,?_,hN,?_⟩,UR hF.pay alk _⟩ _
  .exact azA
  .exact ay6
 .rintro e a' w' ⟨rfl,hd,v,hk⟩;show Goes _ _ _ _ _ 3 (G (w0C.at a' []) [OQ]) w';refine aO rfl λw₁ h₁=>?_
  replace hk:=hk.rely h₁;clear h₁;rw[stepG_end];refine⟨T.idle _,?_⟩;refine aO rfl λw₁ h₁=>?_
  replace hk:=hk.rely h₁;clear h₁;rw[stepG_unwind_enter hd func50 (nm_done link) rfl];refine⟨T.idle _,?_⟩;refine dF λw₁ h₁=>?_
  replace hk:=hk.rely h₁;clear h₁;refine⟨rfl,v,hk.wp,hk.has,λW h1 h2=>?_⟩;have hA:=@doneN _ link prog Nr NoF NoF Wg C n 0 (idx+1) v;have:=hA (c:={w0C.at ⟨a'.tmps,[]⟩ []with mode:=.returning}) (cs:=[OQ]) (qt:=2) rfl (aiv a'.tmps) W ⟨h1,jI⟩;exact this
end
def LoC[rq](Wg C B b:Nat):Prop:=b<B/\b≠Wg/\b≠C/\¬rq.old b
structure F9 where
 ba:Nat
 bk:Nat
 bd:Nat
 bD:Nat
 oD:Nat
 cD:Nat
 cs:List UK
 h0:Nat->aV
def F9.cap(E:F9)(bj:Nat):Zr:={ba:=E.ba,bj:=bj,bk:=E.bk,bd:=E.bd,bD:=E.bD,oD:=E.oD,cD:=E.cD}
def F9.res(E:F9)(k L t:Nat):aA:=comb (FC ((List.range k).map (uB k t)) E.cs) (List.replicate L 0)
structure QA(E:F9)(k n L:Nat):Prop where
 k0:0<k
 k1:k<=128
 n1:n<=128
 hL:L<=140737488355328
 len:E.cs.length=k
 cl:∀c∈E.cs,DU c.ys L/\∀y∈c.ys,y<256
structure al3[rq](Wg C B k n L:Nat)(E:F9)(w:ah):Prop where
 la:LoC Wg C B E.ba
 lk:LoC Wg C B E.bk
 ld:LoC Wg C B E.bd
 lD:LoC Wg C B E.bD
 va:w.cell? ⟨E.ba,0,none⟩=some (.slice (some ⟨C,0,none⟩) n n)
 vk:w.cell? ⟨E.bk,0,none⟩=some (.int .i64 ((k:Nat):Int))
 vd:w.cell? ⟨E.bd,0,none⟩=some (.slice (some ⟨E.bD,E.oD,none⟩) k E.cD)
 hc:∀j c,E.cs[j]?=some c->w.cell? ⟨E.bD,E.oD+j,none⟩=some (.slice c.bs L c.co)
 xR:∀c∈E.cs,LoC Wg C B c.bo/\(0<L->c.bs=some ⟨c.bo,c.oo,none⟩)/\∀i y,c.ys[i]?=some y->w.cell? ⟨c.bo,c.oo+i,none⟩=some (.int .u8 ((y:Nat):Int))
 UT:∀b,b<B->b≠Wg->b≠C->w.heap[b]?=E.h0 b
theorem al3.Bz[rq]{Wg C B k n L:Nat}{E:F9}{w w₁:ah}(h:al3 Wg C B k n L E w)(st0:∀b,b<B->b≠Wg->b≠C->w₁.heap[b]?=w.heap[b]?):al3 Wg C B k n L E w₁:=by
 have st:∀{b:Nat},LoC Wg C B b->∀o,w₁.cell? ⟨b,o,none⟩=w.cell? ⟨b,o,none⟩:=λhb o=>by simp only[World.cell?,st0 _ hb.1 hb.2.1 hb.2.2.1]
 exact⟨h.la,h.lk,h.ld,h.lD,(st h.la _).trans h.va,(st h.lk _).trans h.vk,(st h.ld _).trans h.vd,λj c e=>(st h.lD _).trans (h.hc j c e),λc hc=>let⟨h1,h2,h3⟩:=h.xR c hc;⟨h1,h2,λi y e=>(st h1 _).trans (h3 i y e)⟩,λb h1 h2 h3=>(st0 b h1 h2 h3).trans (h.UT b h1 h2 h3)⟩
section
variable [Payload][rq]{Wg C k n B L:Nat}{E:F9}
structure Aa(Wg C k n B L:Nat)(E:F9)(s0:Nat)(w:ah):Prop where
 bs:Bs C B w
 pay:PayAt C n w
 low:al3 Wg C B k n L E w
 sb:C<s0/\B<=s0/\s0<=w.heap.size
theorem Aa.rely{s0:Nat}{w w₁:ah}(h:Aa Wg C k n B L E s0 w)(r:Ro Wg C n B (λi=>¬i<n) w w₁):Aa Wg C k n B L E s0 w₁:=
 ⟨h.bs.rely r,r.pay h.pay,h.low.Bz r.low,⟨h.sb.1,h.sb.2.1,bu h.sb.2.2 r.size⟩⟩
theorem Aa.ex{s0:Nat}{w w₁:ah}{S:Nat->Prop}(h:Aa Wg C k n B L E s0 w)(hb:Bs C B w₁)(r:Ex Wg C n B (λi=>¬i<n) S w w₁):Aa Wg C k n B L E s0 w₁:=
 ⟨hb,r.pay h.pay,h.low.Bz r.low,⟨h.sb.1,h.sb.2.1,bu h.sb.2.2 r.size⟩⟩
theorem Aa.base{s0:Nat}{w:ah}(h:Aa Wg C k n B L E s0 w):Aa Wg C k n B L E w.heap.size w:=⟨h.bs,h.pay,h.low,⟨h.bs.hC,h.bs.hB,az _⟩⟩
structure Yd(Wg C k n B L:Nat)(E:F9)(s0 bj:Nat)(vj:ai)(w:ah):Prop where
 sf:Aa Wg C k n B L E s0 w
 lj:s0<=bj
 mj:qZ w bj
 hj:w.heap[bj]?=some (.cells #[vj] 3)
theorem Yd.rely{s0 bj:Nat}{vj:ai}{w w₁:ah}(h:Yd Wg C k n B L E s0 bj vj w)(r:Ro Wg C n B (λi=>¬i<n) w w₁):Yd Wg C k n B L E s0 bj vj w₁:=⟨h.sf.rely r,h.lj,(r.yL _).2 h.mj,(r.mine _ h.mj).trans h.hj⟩
theorem Aa.aeQ{s0:Nat}{w:ah}(h:Aa Wg C k n B L E s0 w)(v:ai):Yd Wg C k n B L E s0 w.heap.size v (w.alloc (.cells #[v] 3)):=
 ⟨h.ex (S:=λ_=>False) (h.bs.alloc _) (Ex.alloc h.bs.hC h.bs.hB (λ_ hb=>h.bs.lt hb) _),h.sb.2.2,zY (w:=w) (w':=w.alloc _) rfl h.bs.tg (az _) iL,by rw[EI]⟩
theorem Yd.jC{s0 bj:Nat}{vj:ai}{w:ah}(h:Yd Wg C k n B L E s0 bj vj w):bj≠C:=ax5
theorem Yd.cj{s0 bj:Nat}{vj:ai}{w:ah}(h:Yd Wg C k n B L E s0 bj vj w):w.cell? ⟨bj,0,none⟩=some vj/\w.frozen? ⟨bj,0,none⟩=false:=⟨by rw[cell_of w h.hj];rfl,wK w h.hj 0⟩
theorem Yd.aoF{s0 bj:Nat}{vj:ai}{w:ah}(h:Yd Wg C k n B L E s0 bj vj w)(v:ai):Yd Wg C k n B L E s0 bj v (w.setCell ⟨bj,0,none⟩ v):=
 ⟨h.sf.ex (S:=λx=>s0<=x) (h.sf.bs.set _ _) (Ex.set h.jC h.lj (by have:=h.sf.sb.2.1;have:=h.lj;show¬(bj<B/\_);omega)),h.lj,sQ (w:=w) (w':=w.setCell _ _) rfl eY h.mj,heap_set w h.hj 0 v⟩
theorem Aa.book{s0:Nat}{w:ah}(h:Aa Wg C k n B L E s0 w){l:aA}(hl:∀b∈l,b<w.heap.size):Aa Wg C k n B L E s0 (w.out (book w.heap.size l)):=
 ⟨⟨avr,h.bs.hC,h.bs.hB,λb hb=>by rw[vP]at hb;exact hl b hb⟩,h.pay,h.low.Bz (λ_ _ _ _=>rfl),h.sb⟩
theorem aoG{s0 j bj:Nat}{w:ah}(h:Yd Wg C k n B L E s0 bj (.int .i64 ((j:Nat):Int)) w):WIc Wg C n B (E.cap bj) k L j E.cs (w.out (book w.heap.size [bj])):=by
 have hf:=h.sf.low
 exact⟨⟨avr,h.sf.bs.hC,h.sf.bs.hB,λb hb=>axt⟩,h.sf.pay,.inr hf.la,hf.va,.inl (.inl axs),h.cj.1,
  .inr hf.lk,hf.vk,.inr hf.ld,hf.vd,.inr hf.lD,hf.hc,λc hc=>⟨.inr (hf.xR c hc).1,(hf.xR c hc).2⟩⟩
end
def TC(E:F9)(Wg n j:Nat)(T:aB):Prop:=∃f:Nat->ai,T=#[f 0,f 1,f 2,.pointer (some ⟨E.bk,0,none⟩),f 4,f 5,f 6,.pointer (some ⟨E.bd,0,none⟩),.pointer (some ⟨E.ba,0,none⟩),.pointer (some ⟨Wg,0,none⟩),f 10,f 11,f 12,f 13,f 14,f 15,f 16,.int .i64 ((n:Nat):Int),.int .i64 ((j:Nat):Int),f 19,f 20,f 21,f 22,f 23,f 24,f 25]
theorem aiB{E:F9}{Wg n j:Nat}{T:aB}(h:T=#[ae T 0,ae T 1,ae T 2,.pointer (some ⟨E.bk,0,none⟩),ae T 4,ae T 5,ae T 6,.pointer (some ⟨E.bd,0,none⟩),.pointer (some ⟨E.ba,0,none⟩),.pointer (some ⟨Wg,0,none⟩),ae T 10,ae T 11,ae T 12,ae T 13,ae T 14,ae T 15,ae T 16,.int .i64 ((n:Nat):Int),.int .i64 ((j:Nat):Int),ae T 19,ae T 20,ae T 21,ae T 22,ae T 23,ae T 24,ae T 25]):TC E Wg n j T:=⟨λi=>T.getD i undef,h⟩
def qM:Code->Code| .seq x _=>x|c=>c
def qA:Code->Code| .seq _ y=>y|c=>c
def Qh:Code->Code| .block _ c=>c| .loop c=>c|c=>c
def uq:Code->Array Oper| .region _ o _=>o|_=>#[]
noncomputable def zD:Code:=Tryz.f29.body.getD .skip
noncomputable def Ar:Code:=qA (qA (qA (qA zD)))
noncomputable def Au:Code:=Qh (Qh (qA (qM Ar)))
noncomputable def aa5:Code:=Qh (qM (qA (qA Au)))
noncomputable def qg4:{x:Array Oper//x=uq (qM (qM Ar))}:=⟨_,by(simp only[zD,Ar,qM,qA,uq,Tryz.f29,aQ];rfl)⟩
noncomputable def og4:Array Oper:=qg4.1
noncomputable def qg5:{x:Array Oper//x=uq (qM Au)}:=⟨_,by(simp only[zD,Au,Ar,qM,qA,Qh,uq,Tryz.f29,aQ];rfl)⟩
noncomputable def og5:Array Oper:=qg5.1
noncomputable def qg6:{x:Array Oper//x=uq (qM aa5)}:=⟨_,by(simp only[zD,aa5,Au,Ar,qM,qA,Qh,uq,Tryz.f29,aQ];rfl)⟩
noncomputable def og6:Array Oper:=qg6.1
noncomputable def qg7:{x:Array Oper//x=uq (qM (qA aa5))}:=⟨_,by(simp only[zD,aa5,Au,Ar,qM,qA,Qh,uq,Tryz.f29,aQ];rfl)⟩
noncomputable def og7:Array Oper:=qg7.1
noncomputable def qg8:{x:Array Oper//x=uq (qA (qA aa5))}:=⟨_,by(simp only[zD,aa5,Au,Ar,qM,qA,Qh,uq,Tryz.f29,aQ];rfl)⟩
noncomputable def og8:Array Oper:=qg8.1
noncomputable def qg9:{x:Array Oper//x=uq (qA (qA (qA Au)))}:=⟨_,by(simp only[zD,Au,Ar,qM,qA,Qh,uq,Tryz.f29,aQ];rfl)⟩
noncomputable def og9:Array Oper:=qg9.1
noncomputable def aq0:{x:Array Oper//x=uq (qM (qA Ar))}:=⟨_,by(simp only[zD,Ar,qM,qA,uq,Tryz.f29,aQ];rfl)⟩
noncomputable def aoH:Array Oper:=aq0.1
noncomputable def aq1:{x:Array Oper//x=uq (qM (qA (qA Ar)))}:=⟨_,by(simp only[zD,Ar,qM,qA,uq,Tryz.f29,aQ];rfl)⟩
noncomputable def aq2:Array Oper:=aq1.1
noncomputable def ae_:Code:=.seq (.region 11 aq2 false) .ret
noncomputable def aa6:Code:=.seq (.region 10 aoH false) ae_
theorem aiC:Ar=.seq (.seq (.region 4 og4 false) (.block 0 (.loop Au))) aa6:=aj
theorem aa7:Au=.seq (.region 5 og5 false) (.seq (.cond (.tmp 19) .skip (.exit 0)) (.seq (.block 1 aa5) (.region 9 og9 false))):=aj
theorem al4:aa5=.seq (.region 6 og6 false) (.seq (.region 7 og7 false) (.region 8 og8 false)):=aj
theorem ng4:og4.size=3:=aj
theorem ng5:og5.size=1:=aj
theorem ng6:og6.size=3:=aj
theorem ng7:og7.size=1:=aj
theorem ng8:og8.size=2:=aj
theorem ng9:og9.size=2:=aj
theorem as5:aoH.size=1:=aj
section
variable [Payload][rq]{Wg C k n B L:Nat}{E:F9}
def KC(Wg C k n B L:Nat)(E:F9)(cs:aP)(ids:aA)(g:aG)(w:ah):Prop:=
 ∃T s0 j ops,g=G ((base 29).at ⟨T,[]⟩ (.inRegion ops []::[.code ae_])) cs/\TC E Wg n j T/\Aa Wg C k n B L E s0 w/\∀x,x∈ids↔x<n
theorem KC.rely{cs:aP}{ids:aA}{g:aG}{w w₁:ah}(h:KC Wg C k n B L E cs ids g w)(r:Ro Wg C n B (λi=>¬i<n) w w₁):KC Wg C k n B L E cs ids g w₁:=by exact azo
def StC(Wg C k n B L:Nat)(E:F9)(cs:aP):Nat->aA->aG->ah->Prop
 |0,ids=>al5 prog link.tWg Wg (KC Wg C k n B L E cs) ids
 |r+1,ids=>afa prog link.tWg Wg C n B (· <n) (W_ C L (E.res k L)) (Sp prog link.tWg Wg C n B (· <n) (W_ C L (E.res k L)) (KC Wg C k n B L E cs) r) ids
theorem afb{cs:aP}(r:Nat)(ids:aA)(g:aG)(w:ah):Sp prog link.tWg Wg C n B (· <n) (W_ C L (E.res k L)) (KC Wg C k n B L E cs) r ids g w↔∃m,Goes prog true (Ro Wg C n B (λi=>¬i<n)) (Dg Wg C n B (λi=>¬i<n)) (StC Wg C k n B L E cs r ids) m g w:=by cases r<;>exact Iff.rfl
theorem aoI{cs:aP}:∃m,∀(T:aB)(w:ah)(ids:aA)(s0:Nat),TC E Wg n n T->Aa Wg C k n B L E s0 w->(∀x,x∈ids↔x<n)->
  Goes prog true (Ro Wg C n B (λi=>¬i<n)) (Dg Wg C n B (λi=>¬i<n)) (StC Wg C k n B L E cs 0 ids) m (G ((base 29).at ⟨T,[]⟩ (.code Au::.inLoop Au::.inBlock 0::[.code aa6])) cs) w:=by
 co_apply Exists.intro;rintro T w ids s0 ⟨f,rfl⟩ hF BL;have Hg:¬((n:Int)<(n:Int)):=ag;generalize hkk:Item.inLoop Au::[Item.inBlock 0,Item.code aa6]=kk;rw[aa7]
 (co_apply aO rfl;intro _ qL;replace hF:=Aa.rely hF qL;clear qL;rw[aW];simp only[bF];refine⟨aZ qj _,?_⟩)
 (co_apply aO rfl;intro _ qL;replace hF:=Aa.rely hF qL;clear qL;rw[dS,ng5];simp only[bF,List.range,List.range.loop];refine⟨aZ qj _,?_⟩;simp only[og5,qg5])
 (co_apply aO rfl;intro _ qL;replace hF:=Aa.rely hF qL;clear qL
  refine goes_oper_k rfl rfl aC (λKq uK=>?_)
  (skip)
  go_simp
  try(unfold stored;go_simp)
  refine uK _ _ ⟨?_,?_⟩
  ·(co_quiet qj)
  clear uK Kq
  try walk_nrm)
 (co_apply aO rfl;intro _ qL;replace hF:=Aa.rely hF qL;clear qL;rw[bf];simp only[bF];refine⟨aZ qj _,?_⟩)
 (co_apply aO rfl;intro _ qL;replace hF:=Aa.rely hF qL;clear qL;rw[aW];simp only[bF];refine⟨aZ qj _,?_⟩)
 (co_apply aO rfl;intro _ qL;replace hF:=Aa.rely hF qL;clear qL)
 rw[lF (t:=false) rfl];simp only[bF,dC,bQ];refine⟨aZ qj _,?_⟩
 (co_apply aO rfl;intro _ qL;replace hF:=Aa.rely hF qL;clear qL)
 subst hkk;refine goes_exit rfl ?_;refine⟨aZ qj _,?_⟩;unfold aa6
 (co_apply aO rfl;intro _ qL;replace hF:=Aa.rely hF qL;clear qL;rw[aW];simp only[bF];refine⟨aZ qj _,?_⟩)
 (co_apply aO rfl;intro _ qL;replace hF:=Aa.rely hF qL;clear qL;rw[dS,as5];simp only[bF,List.range,List.range.loop];refine⟨aZ qj _,?_⟩;simp only[aoH,aq0])
 (co_apply aO rfl;intro _ qL;replace hF:=Aa.rely hF qL;clear qL)
 refine goes_call rfl rfl aC rfl Nr.f_wait (nm_wait link) rfl ⟨aZ qj _,?_⟩
 walk_nrmf waitFn
 refine dF (n:=0) λw₁ hR=>?_
 replace hF:=hF.rely hR;clear hR;refine⟨rfl,_,aiD Nr,_,s0,n,_,rfl,?_,hF,BL⟩;walk_nrm;exact aiB rfl
theorem al6(hE:QA E k n L){cs:aP}{j:Nat}(hj:j<n)(r:Nat){m1:Nat}
  (ih:∀(T:aB)(w:ah)(ids:aA)(s0:Nat),TC E Wg n (j+1) T->Aa Wg C k n B L E s0 w->(∀x,x∈ids↔x<j+1)->Goes prog true (Ro Wg C n B (λi=>¬i<n)) (Dg Wg C n B (λi=>¬i<n)) (StC Wg C k n B L E cs r ids) m1 (G ((base 29).at ⟨T,[]⟩ (.code Au::.inLoop Au::.inBlock 0::[.code aa6])) cs) w):
  ∃m,∀(T:aB)(w:ah)(ids:aA)(s0:Nat),TC E Wg n j T->Aa Wg C k n B L E s0 w->(∀x,x∈ids↔x<j)->
   Goes prog true (Ro Wg C n B (λi=>¬i<n)) (Dg Wg C n B (λi=>¬i<n)) (StC Wg C k n B L E cs (r+1) ids) m (G ((base 29).at ⟨T,[]⟩ (.code Au::.inLoop Au::.inBlock 0::[.code aa6])) cs) w:=by
 obtain⟨mw,hmw⟩:=aoD (Wg:=Wg) (C:=C) (n:=n) (B:=B) k L hE.k0 hE.k1 hE.n1 hE.hL j hj;co_apply Exists.intro;rintro T w ids s0 ⟨f,rfl⟩ hF BL;replace hF:=hF.base;generalize yE:w.heap.size=s1 at hF;clear yE s0;have hjI:(j:Int)<(n:Int):=ag;have hn1:=hE.n1;generalize hkk:Item.inLoop Au::[Item.inBlock 0,Item.code aa6]=kk;rw[aa7]
 (co_apply aO rfl;intro _ qL;replace hF:=Aa.rely hF qL;clear qL;rw[aW];simp only[bF];refine⟨aZ qj _,?_⟩)
 (co_apply aO rfl;intro _ qL;replace hF:=Aa.rely hF qL;clear qL;rw[dS,ng5];simp only[bF,List.range,List.range.loop];refine⟨aZ qj _,?_⟩;simp only[og5,qg5])
 (co_apply aO rfl;intro _ qL;replace hF:=Aa.rely hF qL;clear qL
  refine goes_oper_k rfl rfl aC (λKq uK=>?_)
  (skip)
  go_simp
  try(unfold stored;go_simp)
  refine uK _ _ ⟨?_,?_⟩
  ·(co_quiet qj)
  clear uK Kq
  try walk_nrm)
 (co_apply aO rfl;intro _ qL;replace hF:=Aa.rely hF qL;clear qL;rw[bf];simp only[bF];refine⟨aZ qj _,?_⟩)
 (co_apply aO rfl;intro _ qL;replace hF:=Aa.rely hF qL;clear qL;rw[aW];simp only[bF];refine⟨aZ qj _,?_⟩)
 (co_apply aO rfl;intro _ qL;replace hF:=Aa.rely hF qL;clear qL)
 rw[lF (t:=true) rfl];simp only[bF,aX];refine⟨aZ qj _,?_⟩
 (co_apply aO rfl;intro _ qL;replace hF:=Aa.rely hF qL;clear qL;rw[fB];simp only[bF];refine⟨aZ qj _,?_⟩)
 (co_apply aO rfl;intro _ qL;replace hF:=Aa.rely hF qL;clear qL;rw[aW];simp only[bF];refine⟨aZ qj _,?_⟩)
 (co_apply aO rfl;intro _ qL;replace hF:=Aa.rely hF qL;clear qL;rw[lG];simp only[bF];refine⟨aZ qj _,?_⟩)
 rw[al4]
 (co_apply aO rfl;intro _ qL;replace hF:=Aa.rely hF qL;clear qL;rw[aW];simp only[bF];refine⟨aZ qj _,?_⟩)
 (co_apply aO rfl;intro _ qL;replace hF:=Aa.rely hF qL;clear qL;rw[dS,ng6];simp only[bF,List.range,List.range.loop];refine⟨aZ qj _,?_⟩;simp only[og6,qg6])
 (co_apply aO rfl;intro _ qL;replace hF:=Aa.rely hF qL;clear qL
  refine goes_oper_k rfl rfl aC (λKq uK=>?_)
  (skip)
  go_simp
  try(unfold stored;go_simp)
  refine uK _ _ ⟨?_,?_⟩
  ·(co_quiet qj)
  clear uK Kq
  try walk_nrm)
 (co_apply aO rfl;intro _ qL;replace hF:=Aa.rely hF qL;clear qL
  refine goes_oper_k rfl rfl aC (λKq uK=>?_)
  (skip)
  go_simp
  try(unfold stored;go_simp)
  refine uK _ _ ⟨?_,?_⟩
  ·(rw[listed_nil kZ];exact zC hF.bs.hC _ rfl)
  clear uK Kq
  try walk_nrm)
 replace hF:=hF.aeQ (.int .i64 0);generalize hN:Array.size (World.heap _)=bj at hF⊢;clear hN
 (co_apply aO rfl;intro _ qL;replace hF:=Yd.rely hF qL;clear qL
  refine goes_oper_k rfl rfl aC (λKq uK=>?_)
  (have h0:=hF.cj.1;have h1:=hF.cj.2)
  go_simp
  try(unfold stored;go_simp)
  refine uK _ _ ⟨?_,?_⟩
  ·(refine Qw hF.mj hF.jC (hF.sf.bs.lt hF.mj) ?_;co_evs (exact⟨_,_,rfl,rfl⟩))
  clear uK Kq
  try walk_nrm)
 clear h0 h1;replace hF:=hF.aoF (.int .i64 ((j:Nat):Int))
 (co_apply aO rfl;intro _ qL;replace hF:=Yd.rely hF qL;clear qL;rw[bf];simp only[bF];refine⟨aZ qj _,?_⟩)
 (co_apply aO rfl;intro _ qL;replace hF:=Yd.rely hF qL;clear qL;rw[aW];simp only[bF];refine⟨aZ qj _,?_⟩)
 (co_apply aO rfl;intro _ qL;replace hF:=Yd.rely hF qL;clear qL;rw[dS,ng7];simp only[bF,List.range,List.range.loop];refine⟨aZ qj _,?_⟩;simp only[og7,qg7])
 (co_apply aO rfl;intro _ qL;replace hF:=Yd.rely hF qL;clear qL)
 refine goes_call rfl rfl aC rfl Nr.f_add (nm_add link) rfl ⟨aZ qj _,?_⟩
 walk_nrmf addFn
 refine dF (n:=0) λw₁ hR=>?_
 replace hF:=hF.rely hR;clear hR;have hA:=λ(b₀:aJ)(a₀:Act)(ops₀:Array Oper)(i₀:Nat)(rest₀:aA)(k₀:b_)=>aoJ (L:=link) (P:=prog) (Wg:=Wg) (b₀:=b₀) (a₀:=a₀) (ops₀:=ops₀) (i₀:=i₀) (rest₀:=rest₀) (k₀:=k₀) (cs:=cs) Nr;simp only[body_add,addFn,aQ]at hA;refine⟨rfl,_,0+1+1+1,hA _ _ _ _ _ _,?_⟩;clear hA;walk_nrm
 (co_apply aO rfl;intro _ qL;replace hF:=Yd.rely hF qL;clear qL;rw[bf];simp only[bF];refine⟨aZ qj _,?_⟩)
 (co_apply aO rfl;intro _ qL;replace hF:=Yd.rely hF qL;clear qL;rw[dS,ng8];simp only[bF,List.range,List.range.loop];refine⟨aZ qj _,?_⟩;simp only[og8,qg8])
 (co_apply aO rfl;intro _ qL;replace hF:=Yd.rely hF qL;clear qL
  refine goes_oper_k rfl rfl aC (λKq uK=>?_)
  (skip)
  go_simp
  try(unfold stored;go_simp)
  refine uK _ _ ⟨?_,?_⟩
  ·(co_quiet qj)
  clear uK Kq
  try walk_nrm)
 refine dF (n:=0) λw₂ r₂=>?_
 replace hF:=hF.rely r₂;clear r₂;refine⟨rfl,?_⟩;rw[stepG_spawn (d:=UL Wg (E.cap bj)) (w':=w₂) (f:=.func 49) (c:=Lh Wg (E.cap bj)) rfl rfl aC (by simp[go_sem,UL,Lh,F9.cap,Deferred.ofValue]) rfl];generalize hL:listed _ _ _ _ _=Lx
 have hLx:Lx=#[]:=by rw[<-hL];simp[listed,go_sem,seen,Deferred.ofValue];rfl
 subst hLx;clear hL
 refine⟨_,_,j,[bj],rfl,rfl,λhx=>by have:=(BL j).1 hx;omega,hj,λb hb=>axM,
  ⟨mw,hmw _ _ _ _ hE.len hE.cl rfl (aoG hF)⟩,λl' FI=>(afb r _ _ _).2 ⟨m1+1+1+1+1+1+1+1,?_⟩⟩
 walk_nrm;have hS:Aa Wg C k n B L E s1 (w₂.out (book w₂.heap.size l')):=hF.sf.book (λb hb=>hF.sf.bs.lt ((FI b).1 hb).1);clear hF;have BB:IntKind.i64.wrap ((j:Int)+1)=((j+1:Nat):Int):=iw
 (co_apply aO rfl;intro _ qL;replace hS:=Aa.rely hS qL;clear qL;rw[bf];simp only[bF];refine⟨aZ qj _,?_⟩)
 (co_apply aO rfl;intro _ qL;replace hS:=Aa.rely hS qL;clear qL;rw[stepG_inBlock];simp only[bF];refine⟨aZ qj _,?_⟩)
 (co_apply aO rfl;intro _ qL;replace hS:=Aa.rely hS qL;clear qL;rw[dS,ng9];simp only[bF,List.range,List.range.loop];refine⟨aZ qj _,?_⟩;simp only[og9,qg9])
 (co_apply aO rfl;intro _ qL;replace hS:=Aa.rely hS qL;clear qL
  refine goes_oper_k rfl rfl aC (λKq uK=>?_)
  (skip)
  go_simp
  try(unfold stored;go_simp)
  refine uK _ _ ⟨?_,?_⟩
  ·(co_quiet qj)
  clear uK Kq
  try walk_nrm)
 (co_apply aO rfl;intro _ qL;replace hS:=Aa.rely hS qL;clear qL
  refine goes_oper_k rfl rfl aC (λKq uK=>?_)
  (skip)
  go_simp
  try(unfold stored;go_simp)
  refine uK _ _ ⟨?_,?_⟩
  ·(co_quiet qj)
  clear uK Kq
  try walk_nrm)
 (co_apply aO rfl;intro _ qL;replace hS:=Aa.rely hS qL;clear qL;rw[bf];simp only[bF];refine⟨aZ qj _,?_⟩)
 subst hkk
 (co_apply aO rfl;intro _ qL;replace hS:=Aa.rely hS qL;clear qL;rw[stepG_inLoop];simp only[bF];refine⟨aZ qj _,?_⟩)
 refine ih _ _ (j::ids) s1 (aiB rfl) hS (λx=>?_);rw[dX,BL];omega
theorem spc(hE:QA E k n L){cs:aP}:∀(d j:Nat),j+d=n->∃m,∀(T:aB)(w:ah)(ids:aA)(s0:Nat),TC E Wg n j T->Aa Wg C k n B L E s0 w->(∀x,x∈ids↔x<j)->
  Goes prog true (Ro Wg C n B (λi=>¬i<n)) (Dg Wg C n B (λi=>¬i<n)) (StC Wg C k n B L E cs d ids) m (G ((base 29).at ⟨T,[]⟩ (.code Au::.inLoop Au::.inBlock 0::[.code aa6])) cs) w
 |0,j,hd=>by obtain rfl:j=n:=ag;exact aoI (Wg:=Wg) (C:=C) (n:=j) (B:=B) (L:=L) (E:=E) (cs:=cs)
 |d+1,j,hd=>by obtain⟨m1,ih⟩:=spc hE d (j+1) ag;exact al6 hE ag d ih
def TB(E:F9)(Wg:Nat)(T:aB):Prop:=∃f:Nat->ai,T=#[f 0,f 1,f 2,.pointer (some ⟨E.bk,0,none⟩),f 4,f 5,f 6,.pointer (some ⟨E.bd,0,none⟩),.pointer (some ⟨E.ba,0,none⟩),.pointer (some ⟨Wg,0,none⟩),f 10,f 11,f 12,f 13,f 14,f 15,f 16,f 17,f 18,f 19,f 20,f 21,f 22,f 23,f 24,f 25]
theorem Ye(hE:QA E k n L){cs:aP}{T:aB}{w:ah}{s0:Nat}(hT:TB E Wg T)(hF:Aa Wg C k n B L E s0 w):
  Sp prog link.tWg Wg C n B (· <n) (W_ C L (E.res k L)) (KC Wg C k n B L E cs) n [] (G ((base 29).at ⟨T,[]⟩ [.code Ar]) cs) w:=by
 obtain⟨m,hm⟩:=spc (Wg:=Wg) (C:=C) (k:=k) (n:=n) (B:=B) (L:=L) (E:=E) hE (cs:=cs) n 0 ag;rw[afb];co_apply Exists.intro;obtain⟨f,rfl⟩:=hT;rw[aiC]
 (co_apply aO rfl;intro _ qL;replace hF:=Aa.rely hF qL;clear qL;rw[aW];simp only[bF];refine⟨aZ qj _,?_⟩)
 (co_apply aO rfl;intro _ qL;replace hF:=Aa.rely hF qL;clear qL;rw[aW];simp only[bF];refine⟨aZ qj _,?_⟩)
 (co_apply aO rfl;intro _ qL;replace hF:=Aa.rely hF qL;clear qL;rw[dS,ng4];simp only[bF,List.range,List.range.loop];refine⟨aZ qj _,?_⟩;simp only[og4,qg4])
 (co_apply aO rfl;intro _ qL;replace hF:=Aa.rely hF qL;clear qL
  refine goes_oper_k rfl rfl aC (λKq uK=>?_)
  (have h0:=hF.low.va)
  go_simp
  try(unfold stored;go_simp)
  refine uK _ _ ⟨?_,?_⟩
  ·(refine ui (b:=E.ba) (.inr hF.low.la) (by have:=hF.low.la.1;have:=hF.bs.hB;omega) ?_;co_evs (exact⟨_,rfl,rfl⟩))
  clear uK Kq
  try walk_nrm)
 clear h0
 (co_apply aO rfl;intro _ qL;replace hF:=Aa.rely hF qL;clear qL
  refine goes_oper_k rfl rfl aC (λKq uK=>?_)
  (skip)
  go_simp
  try(unfold stored;go_simp)
  refine uK _ _ ⟨?_,?_⟩
  ·(co_quiet qj)
  clear uK Kq
  try walk_nrm)
 (co_apply aO rfl;intro _ qL;replace hF:=Aa.rely hF qL;clear qL
  refine goes_oper_k rfl rfl aC (λKq uK=>?_)
  (skip)
  go_simp
  try(unfold stored;go_simp)
  refine uK _ _ ⟨?_,?_⟩
  ·(co_quiet qj)
  clear uK Kq
  try walk_nrm)
 (co_apply aO rfl;intro _ qL;replace hF:=Aa.rely hF qL;clear qL;rw[bf];simp only[bF];refine⟨aZ qj _,?_⟩)
 (co_apply aO rfl;intro _ qL;replace hF:=Aa.rely hF qL;clear qL;rw[lG];simp only[bF];refine⟨aZ qj _,?_⟩)
 (co_apply aO rfl;intro _ qL;replace hF:=Aa.rely hF qL;clear qL;rw[stepG_loop];simp only[bF];refine⟨aZ qj _,?_⟩)
 exact hm _ _ [] s0 (aiB rfl) hF (λx=>⟨λh=>kX,λh=>absurd h ag⟩)
