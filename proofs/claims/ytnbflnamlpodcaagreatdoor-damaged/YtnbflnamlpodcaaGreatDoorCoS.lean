import Derived.Test.YtnbflnamlpodcaaGreatDoorCoW
set_option maxHeartbeats 4000000
set_option maxRecDepth 100000
namespace Go.Proofs.Y
open Go.Proofs.Tryz
open Go.Conc Go.RowKit Go.Gh
open Go.ConcR (Payload)
def ahO(w:World)(N L:Nat)(bs:Option Addr)(co bo:Nat)(ys:List Nat):Prop:=
 (Builtin.copy_ #[34,34] 3 #[.slice (some ⟨N,0,none⟩) L L,.slice bs L co]).run prog w=.ok (goInt L) (w.setRow N (tV ys))/\
  ∀e∈(Builtin.copy_ #[34,34] 3 #[.slice (some ⟨N,0,none⟩) L L,.slice bs L co]).events prog w #[],∃b wr,e=⟨.cell b,wr,false⟩/\(b.block=N\/(b.block=bo/\wr=false))
theorem Ui(ys:List Nat):∀v∈(tV ys).toList,v.oneCell'=true:=by intro v hv;obtain⟨i,hi⟩:=ou.1 (Array.mem_toList_iff.1 hv);rw[yt]at hi;obtain⟨y,_,rfl⟩:=bT.1 hi;rfl
theorem ali(w:World)(N L:Nat)(bs:Option Addr)(co bo oo:Nat)(ys:List Nat)(hs:0<L->bs=some ⟨bo,oo,none⟩)(hl:ys.length=L)(hc:∀i y,ys[i]?=some y->w.cell? ⟨bo,oo+i,none⟩=some (.int .u8 ((y:Nat):Int)))
  {cur:Array Value} (alj:cur.size=L) (hg:w.heap[N]?=some (.cells cur 5)):ahO w N L bs co bo ys:=by
 have hu:=underlying34;obtain⟨i0,hi,_,w_,_⟩:=bG Tc;have hsz:(prog.info? 5).map (·.size)=some 1:=by rw[hi];simp[w_]
 have Yr:(tV ys).size=L:=by simp[tV,hl]
 rcases dK L with h0|h0
 .subst h0;have hn:ys=[]:=kR hl;subst hn;have e0:cur=tV []:=by rw[Array.eq_empty_of_size_eq_zero alj];rfl
  rw[e0]at hg;refine⟨?_,?_⟩
  .rw[setRow_self w N _ _ _ hg];cases bs<;>simp[Builtin.copy_,run_underlying hu,Builtin.lenOf,Builtin.firstCells,sizeOf,typeInfo,hi,loadCells,loadCellsFrom,storeCells]
  .intro e he;cases bs<;>simp[Builtin.copy_,run_underlying hu,Builtin.lenOf,Builtin.firstCells,sizeOf,typeInfo,hi,loadCells,loadCellsFrom,storeCells,go_sem]at he
 .obtain rfl:=hs h0
  have akC:∀j v,(tV ys).toList[j]?=some v->w.cell? ((⟨bo,oo,none⟩:Addr).add j)=some v:=by intro j v hj;rw[aup,yt]at hj;obtain⟨y,hy,rfl⟩:=bT.1 hj;rw[add_plain];exact hc j y hy
  refine⟨?_,?_⟩
  .have:=run_copy_row prog w 34 34 3 5 N 0 L L ⟨bo,oo,none⟩ L co cur 5 (tV ys).toList hu hsz hg (by simp[Yr]) akC (by simp[Yr,alj]) (Ui ys);have h1:List.drop L cur.toList=[]:=aug (by simp[alj]);simpa[Yr,h1]using this
  .intro e he;have hlr:=run_loadCells_list (P:=prog) w ⟨bo,oo,none⟩ (tV ys).toList akC;have O0:(tV ys).toList.length=L:=by simp[Yr]
   rw[O0]at hlr;simp[Builtin.copy_,run_underlying hu,Builtin.lenOf,Builtin.firstCells,sizeOf,typeInfo,hi,w_,go_sem]at he;rw[show(loadCellsFrom ⟨bo,oo,none⟩ 0 L #[]).run prog w=.ok (tV ys) w from by simpa[loadCells]using hlr]at he;simp only[Result.evThen_ok]at he;rcases Fz N 5 (tV ys).toList 0 cur w _ hg (by simp[Yr,alj]) (Ui ys) e he with h|⟨b,rfl,hb⟩
   .rcases GM ⟨bo,oo,none⟩ L 0 #[] w #[] (λj hj=>⟨_,akC (0+j) ((tV ys)[j]' ae) (by simp[Yr,hj])⟩) e h with h|⟨b,rfl,hb⟩
    .simp at h
    .exact⟨b,false,rfl,.inr ⟨hb,rfl⟩⟩
   .exact⟨b,true,rfl,.inl hb⟩
section
variable [Payload][qV]{main:Bool}{Wg C n B:Nat}{Cl:Nat->Prop}
theorem alk{w:World}{N bo:Nat}{c':Array Value}(hm:qO w N)(hne:N≠C)(hb:N<w.heap.size)(hr:RY Wg C B w bo)(hbo:bo<w.heap.size){es:Array Event}
  (he:∀e∈es,∃b wr,e=⟨.cell b,wr,false⟩/\(b.block=N\/(b.block=bo/\wr=false))):Dg Wg C n B Cl w (w.setRow N c') es:=by
 refine⟨ig,rfl,rfl,λb _ Ir _=>uf w c' (λe=>Ir (e▸hm)),λi _=>Aj w c' (di hne),λ⟨cs,h1,h2⟩=>⟨cs,(uf w c' (di hne)).trans h1,h2⟩,λe Np=>?_⟩;obtain⟨b,wr,rfl,ZT|⟨ZT,rfl⟩⟩:=he e Np
 .exact⟨b,wr,rfl,ig,.inl (by rw[ZT];exact hm)⟩
 .exact⟨b,false,rfl,ig,hr.elim (λx=>.inl (by rw[ZT];exact x)) λx=>.inr (.inr (.inr (by rw[ZT];exact⟨x.1,x.2.1,x.2.2.1,rfl,x.2.2.2⟩)))⟩
theorem ahP(L:Nat)(hL:L<=140737488355328):∃q,∀(w:World)(bs:Option Addr)(bo oo co:Nat)(ys:List Nat),(0<L->bs=some ⟨bo,oo,none⟩)->Dl ys L->Bs C B w->RY Wg C B w bo->(∀i y,ys[i]?=some y->w.cell? ⟨bo,oo+i,none⟩=some (.int .u8 ((y:Nat):Int)))->
  CallsC prog main (Ro Wg C n B Cl) (Dg Wg C n B Cl) 110 #[.slice bs L co] q w λv w'=>∃N,v=.slice (some ⟨N,0,none⟩) L L/\CG Wg C n B Cl w N ys w':=by
 obtain⟨i0,hi,x_,w_,wH⟩:=bG Tc
 have hmk:∀w:World,(Instr.makeSlice 34 (.int .i64 (L:Int)) (.int .i64 (L:Int))).run prog w=.ok (.slice (some ⟨w.heap.size,0,none⟩) L L) (w.alloc (.cells (madeCells #[.int .u8 0] L) 5)):=λw=>by exact ax8
 have hme:∀(w:World)(es:Array Event),(Instr.makeSlice 34 (.int .i64 (L:Int)) (.int .i64 (L:Int))).events prog w es=es:=λw es=>
  events_make (P:=prog) w 34 5 i0 (.int .u8 0) underlying34 hi x_ .i64 .i64 (L:Int) (L:Int) ae ae fU ae auJ es
 clear hi x_ w_ wH;co_apply Exists.intro;intro w bs bo oo co ys hbs hl hb hr hcs;co_apply callsC_of_wpC func110 ax rfl;simp only[ntmps110,dY,bQ,dB,Nat.reduceAdd,Nat.reduceSub,cu,b_,bU,bY,bg,aV];have hF:CF Wg C n B Cl w w:=⟨hb,.refl w⟩;co_apply aY p_;co_reg p_;co_op CF.rely hF (co_quiet p_);co_apply aX p_;co_then;co_apply aY p_;co_reg p_;co_op CF.rely hF (co_quiet p_);co_op CF.rely hF (co_quiet p_)
 co_opw CF.rely hF (skip) (rw[listed_nil jT];exact y_ hF.bs.hC _ rfl)
 replace hF:=hF.alloc L;generalize hN:Array.size (World.heap _)=N at hF⊢;clear hN;co_op CG.rely hF (co_quiet p_);co_apply aX p_;co_then;co_apply aY p_;co_reg p_;co_op CG.rely hF (co_quiet p_);co_op CG.rely hF (co_quiet p_);have hN1:=hF.lo;have S_:=hb.hC;co_apply opsC_cons_k rfl ax;intro w1 hR K hK;replace hF:=hF.rely hR;clear hR;have hcp:ahO w1 N L bs co bo ys:=ali w1 N L bs co bo oo ys hbs hl (λi y hy=>by rw[<-hcs i y hy];simp only[World.cell?,hF.ex.stands hr id]) (by simp[tV]) hF.hx;obtain⟨hc1,VD⟩:=hcp;go_simp;refine hK _ _ ⟨?_,?_⟩
 .refine alk hF.mn ae (hF.bs.lt hF.mn) (hF.ex.rdb hr) (hF.bs.zI (hF.ex.rdb hr)) ?_;intro e he;have hm:=mem_listed he;simp[go_sem]at hm;exact VD e hm
 clear hK K hc1 VD;replace hF:CG Wg C n B Cl w N ys (w1.setRow N (tV ys)):=⟨hF.bs.row _ _,acQ hF.ex hb hN1 _,hN1,su (w:=w1) (w':=w1.setRow N (tV ys)) rfl ig hF.mn,NU _ hF.hx⟩
 try walk_nrm
 co_apply aX p_;co_then;co_apply aY p_;co_reg p_;co_op CG.rely hF (co_quiet p_);co_op CG.rely hF (co_quiet p_);co_apply aX p_;co_then;co_apply wpC_ret p_;exact awH
end
end Go.Proofs.Y
namespace Go.Proofs.Y
open Go.Proofs.Tryz
open Go.Conc Go.ConcN Go.RowKit Go.Gh
open Go.ConcR (Payload)
def Lo[qV](Wg C B b:Nat):Prop:=b<B/\b≠Wg/\b≠C/\¬qV.old b
structure Env where
 ba:Nat
 bv:Nat
 bW:Nat
 oW:Nat
 cW:Nat
 bd:Nat
 bD:Nat
 oD:Nat
 cD:Nat
 bp:Nat
 op:Nat
 cp:Nat
 br:Nat->Nat
 oR:Nat->Nat
 cR:Nat->Nat
 ws:Nat->List Nat
 px:Nat->Nat
 cs:List Ub
 h0:Nat->Option Obj
def Env.Dx(E:Env)(k t:Nat):Prop:=t<k/\E.px t≠t
def Env.cap(E:Env)(bj idx:Nat):Cap:={ba:=E.ba,bj:=bj,bv:=E.bv,bW:=E.bW,oW:=E.oW,cW:=E.cW,br:=E.br idx,oR:=E.oR idx,cR:=E.cR idx,bd:=E.bd,bD:=E.bD,oD:=E.oD,cD:=E.cD}
def Env.res(E:Env)(L t:Nat):List Nat:=comb (EH (E.ws t) E.cs) (List.replicate L 0)
structure QJ(E:Env)(k L:Nat):Prop where
 k0:0<k
 k1:k<=128
 hL:L<=140737488355328
 len:E.cs.length=k
 wl:∀t,t<k->Dl (E.ws t) k/\∀x∈E.ws t,x<256
 cl:∀c∈E.cs,Dl c.ys L/\∀y∈c.ys,y<256
 pb:∀t,t<k->E.px t<128
structure alm[qV](Wg C B k L:Nat)(E:Env)(w:World):Prop where
 la:Lo Wg C B E.ba
 lv:Lo Wg C B E.bv
 lW:Lo Wg C B E.bW
 ld:Lo Wg C B E.bd
 lD:Lo Wg C B E.bD
 lp:Lo Wg C B E.bp
 lr:∀t,t<k->Lo Wg C B (E.br t)
 va:w.cell? ⟨E.ba,0,none⟩=some (.slice (some ⟨C,0,none⟩) k k)
 vv:w.cell? ⟨E.bv,0,none⟩=some (.slice (some ⟨E.bW,E.oW,none⟩) k E.cW)
 vd:w.cell? ⟨E.bd,0,none⟩=some (.slice (some ⟨E.bD,E.oD,none⟩) k E.cD)
 vW:∀t,t<k->w.cell? ⟨E.bW,E.oW+t,none⟩=some (.slice (some ⟨E.br t,E.oR t,none⟩) k (E.cR t))
 hw:∀t,t<k->∀j x,(E.ws t)[j]?=some x->w.cell? ⟨E.br t,E.oR t+j,none⟩=some (.int .u8 ((x:Nat):Int))
 hc:∀j c,E.cs[j]?=some c->w.cell? ⟨E.bD,E.oD+j,none⟩=some (.slice c.bs L c.co)
 hp0:∀t,t<k->w.cell? ⟨E.bp,E.op+t*2,none⟩=some (.int .i64 ((E.px t:Nat):Int))
 EJ:∀t c,E.cs[t]?=some c->w.cell? ⟨E.bp,E.op+t*2+1,none⟩=some (.slice c.bs L c.co)
 xP:∀c∈E.cs,Lo Wg C B c.bo/\(0<L->c.bs=some ⟨c.bo,c.oo,none⟩)/\∀i y,c.ys[i]?=some y->w.cell? ⟨c.bo,c.oo+i,none⟩=some (.int .u8 ((y:Nat):Int))
 Uj:∀b,b<B->b≠Wg->b≠C->w.heap[b]?=E.h0 b
theorem alm.AV[qV]{Wg C B k L:Nat}{E:Env}{w w₁:World}(h:alm Wg C B k L E w)(st:∀b,b<B->b≠Wg->b≠C->w₁.heap[b]?=w.heap[b]?):alm Wg C B k L E w₁:=by
 have st0:=st;have st:∀{b:Nat},Lo Wg C B b->∀o,w₁.cell? ⟨b,o,none⟩=w.cell? ⟨b,o,none⟩:=λhb o=>by simp only[World.cell?,st _ hb.1 hb.2.1 hb.2.2.1]
 exact⟨h.la,h.lv,h.lW,h.ld,h.lD,h.lp,h.lr,(st h.la _).trans h.va,(st h.lv _).trans h.vv,(st h.ld _).trans h.vd,λt ht=>(st h.lW _).trans (h.vW t ht),λt ht j x e=>(st (h.lr t ht) _).trans (h.hw t ht j x e),
  λj c e=>(st h.lD _).trans (h.hc j c e),λt ht=>(st h.lp _).trans (h.hp0 t ht),λt c e=>(st h.lp _).trans (h.EJ t c e),λc hc=>let⟨h1,h2,h3⟩:=h.xP c hc;⟨h1,h2,λi y e=>(st h1 _).trans (h3 i y e)⟩,λb h1 h2 h3=>(st0 b h1 h2 h3).trans (h.Uj b h1 h2 h3)⟩
section
variable [Payload][qV]{main:Bool}{Wg C k B L:Nat}{E:Env}
structure SF(Wg C k B L:Nat)(E:Env)(s0 j:Nat)(w:World):Prop where
 bs:Bs C B w
 pay:PayAt C k w
 low:alm Wg C B k L E w
 sb:C<s0/\B<=s0/\s0<=w.heap.size
 dn:∀t c,t<j->¬E.Dx k t->E.cs[t]?=some c->∃N,N<s0/\qO w N/\(N≠C/\B<=N)/\Has C t (.slice (some ⟨N,0,none⟩) L L) w/\w.heap[N]?=some (.cells (tV c.ys) 5)
theorem SF.ex{s0 j:Nat}{w w₁:World}{S:Nat->Prop}(h:SF Wg C k B L E s0 j w)(hb:Bs C B w₁)(r:Ex Wg C k B (λi=>¬E.Dx k i) S w w₁)(hS:∀b,S b->s0<=b):SF Wg C k B L E s0 j w₁:=by refine⟨hb,r.pay h.pay,h.low.AV r.low,⟨h.sb.1,h.sb.2.1,aJ h.sb.2.2 r.size⟩,λt c ht hm hc=>?_⟩;obtain⟨N,h1,h2,h3,h4,h5⟩:=h.dn t c ht hm hc;exact⟨N,h1,r.own N h2,h3,(r.cell t hm).trans h4,(r.mine N h2 (λhs=>by have:=hS N hs;omega)).trans h5⟩
theorem SF.rely{s0 j:Nat}{w w₁:World}(h:SF Wg C k B L E s0 j w)(r:Ro Wg C k B (λi=>¬E.Dx k i) w w₁):SF Wg C k B L E s0 j w₁:=by refine⟨h.bs.rely r,r.pay h.pay,h.low.AV r.low,⟨h.sb.1,h.sb.2.1,aJ h.sb.2.2 r.size⟩,λt c ht hm hc=>?_⟩;obtain⟨N,h1,h2,h3,h4,h5⟩:=h.dn t c ht hm hc;exact⟨N,h1,(r.yj N).2 h2,h3,(r.cell t hm).trans h4,(r.mine N h2).trans h5⟩
theorem SF.base{s0 j:Nat}{w:World}(h:SF Wg C k B L E s0 j w):SF Wg C k B L E w.heap.size j w:=by refine⟨h.bs,h.pay,h.low,⟨h.bs.hC,h.bs.hB,ak _⟩,λt c ht hm hc=>?_⟩;obtain⟨N,h1,h2,h3⟩:=h.dn t c ht hm hc;exact⟨N,h.bs.lt h2,h2,h3⟩
structure SG(Wg C k B L:Nat)(E:Env)(s0 j bj bc:Nat)(vj v0 v1:Value)(w:World):Prop where
 sf:SF Wg C k B L E s0 j w
 lj:s0<=bj
 lc:s0<=bc
 ne:bj≠bc
 mj:qO w bj
 mc:qO w bc
 hj:w.heap[bj]?=some (.cells #[vj] 3)
 hc:w.heap[bc]?=some (.cells #[v0,v1] 143)
theorem SG.rely{s0 j bj bc:Nat}{vj v0 v1:Value}{w w₁:World}(h:SG Wg C k B L E s0 j bj bc vj v0 v1 w)(r:Ro Wg C k B (λi=>¬E.Dx k i) w w₁):SG Wg C k B L E s0 j bj bc vj v0 v1 w₁:=
 ⟨h.sf.rely r,h.lj,h.lc,h.ne,(r.yj _).2 h.mj,(r.yj _).2 h.mc,(r.mine _ h.mj).trans h.hj,(r.mine _ h.mc).trans h.hc⟩
structure SJ(Wg C k B L:Nat)(E:Env)(s0 j bj:Nat)(vj:Value)(w:World):Prop where
 sf:SF Wg C k B L E s0 j w
 lj:s0<=bj
 mj:qO w bj
 hj:w.heap[bj]?=some (.cells #[vj] 3)
theorem SJ.rely{s0 j bj:Nat}{vj:Value}{w w₁:World}(h:SJ Wg C k B L E s0 j bj vj w)(r:Ro Wg C k B (λi=>¬E.Dx k i) w w₁):SJ Wg C k B L E s0 j bj vj w₁:=
 ⟨h.sf.rely r,h.lj,(r.yj _).2 h.mj,(r.mine _ h.mj).trans h.hj⟩
theorem SF.alloc{s0 j:Nat}{w:World}(h:SF Wg C k B L E s0 j w)(o:Obj):SF Wg C k B L E s0 j (w.alloc o):=
 h.ex (S:=λ_=>False) (h.bs.alloc o) (Ex.alloc h.bs.hC h.bs.hB (λ_ hb=>h.bs.lt hb) o) (λ_=>False.elim)
theorem SF.aek{s0 j:Nat}{w:World}(h:SF Wg C k B L E s0 j w)(v:Value):SJ Wg C k B L E s0 j w.heap.size v (w.alloc (.cells #[v] 3)):=
 ⟨h.alloc _,h.sb.2.2,zG (w:=w) (w':=w.alloc _) rfl h.bs.tg (ak _) gU,by rw[Ef]⟩
theorem SJ.apm{s0 j bj:Nat}{vj:Value}{w:World}(h:SJ Wg C k B L E s0 j bj vj w)(v0 v1:Value):SG Wg C k B L E s0 j bj w.heap.size vj v0 v1 (w.alloc (.cells #[v0,v1] 143)):=
 ⟨h.sf.alloc _,h.lj,h.sf.sb.2.2,Nat.ne_of_lt (h.sf.bs.lt h.mj),su (w:=w) (w':=w.alloc _) rfl gU h.mj,zG (w:=w) (w':=w.alloc _) rfl h.sf.bs.tg (ak _) gU,
  (bM _ _ _ (h.sf.bs.lt h.mj)).trans h.hj,by rw[Ef]⟩
theorem SF.set{s0 j b o:Nat}{w:World}(h:SF Wg C k B L E s0 j w)(hb:s0<=b)(v:Value):SF Wg C k B L E s0 j (w.setCell ⟨b,o,none⟩ v):=
 h.ex (S:=λx=>s0<=x) (h.bs.set _ _) (Ex.set (by have:=h.sb.1;show b≠C;omega) hb (by have:=h.sb.2.1;show¬(b<B/\_);omega)) (λ_ hx=>hx)
theorem SG.anG{s0 j bj bc:Nat}{vj v0 v1:Value}{w:World}(h:SG Wg C k B L E s0 j bj bc vj v0 v1 w)(v:Value):SG Wg C k B L E s0 j bj bc v v0 v1 (w.setCell ⟨bj,0,none⟩ v):=
 ⟨h.sf.set h.lj v,h.lj,h.lc,h.ne,su (w:=w) (w':=w.setCell _ _) rfl dI h.mj,su (w:=w) (w':=w.setCell _ _) rfl dI h.mc,heap_set w h.hj 0 v,(bF _ _ _ _ (di h.ne)).trans h.hc⟩
theorem SG.arF{s0 j bj bc:Nat}{vj v0 v1:Value}{w:World}(h:SG Wg C k B L E s0 j bj bc vj v0 v1 w)(u0 u1:Value):SG Wg C k B L E s0 j bj bc vj u0 u1 ((w.setCell ⟨bc,0,none⟩ u0).setCell ⟨bc,1,none⟩ u1):=
 ⟨(h.sf.set h.lc u0).set h.lc u1,h.lj,h.lc,h.ne,su (w:=w) (w':=(w.setCell ⟨bc,0,none⟩ u0).setCell ⟨bc,1,none⟩ u1) rfl pF h.mj,su (w:=w) (w':=(w.setCell ⟨bc,0,none⟩ u0).setCell ⟨bc,1,none⟩ u1) rfl pF h.mc,
   (bF _ _ _ _ h.ne).trans ((bF _ _ _ _ h.ne).trans h.hj),heap_set _ (heap_set w h.hc 0 u0) 1 u1⟩
theorem SG.jC{s0 j bj bc:Nat}{vj v0 v1:Value}{w:World}(h:SG Wg C k B L E s0 j bj bc vj v0 v1 w):bj≠C:=awj
theorem SG.cC{s0 j bj bc:Nat}{vj v0 v1:Value}{w:World}(h:SG Wg C k B L E s0 j bj bc vj v0 v1 w):bc≠C:=by have:=h.lc;have:=h.sf.sb.1;omega
theorem SG.cj{s0 j bj bc:Nat}{vj v0 v1:Value}{w:World}(h:SG Wg C k B L E s0 j bj bc vj v0 v1 w):w.cell? ⟨bj,0,none⟩=some vj/\w.frozen? ⟨bj,0,none⟩=false:=⟨by rw[cell_of w h.hj];rfl,vY w h.hj 0⟩
theorem SG.cc{s0 j bj bc:Nat}{vj v0 v1:Value}{w:World}(h:SG Wg C k B L E s0 j bj bc vj v0 v1 w):(w.cell? ⟨bc,0,none⟩=some v0/\w.cell? ⟨bc,1,none⟩=some v1)/\w.frozen? ⟨bc,0,none⟩=false/\w.frozen? ⟨bc,1,none⟩=false:=
 ⟨⟨by rw[cell_of w h.hc];rfl,by rw[cell_of w h.hc];rfl⟩,vY w h.hc 0,vY w h.hc 1⟩
theorem aln{n:Nat}{Cl:Nat->Prop}{w:World}{b:Nat}{u0 u1:Value}(hm:qO w b)(hne:b≠C)(hb:b<w.heap.size){es:Array Event}(he:∀e∈es,∃a wr,e=⟨.cell a,wr,false⟩/\a.block=b):Dg Wg C n B Cl w ((w.setCell ⟨b,0,none⟩ u0).setCell ⟨b,1,none⟩ u1) es:=by
 have hx:∀x,x≠b->((w.setCell ⟨b,0,none⟩ u0).setCell ⟨b,1,none⟩ u1).heap[x]?=w.heap[x]?:=λx hx=>(bF _ _ _ _ hx).trans (bF _ _ _ _ hx)
 refine⟨pF,rfl,rfl,λx _ hx' _=>hx x (λe=>hx' (e▸hm)),λi _=>by simp only[World.cell?,hx C (di hne)],λ⟨cs,h1,h2⟩=>⟨cs,(hx C (di hne)).trans h1,h2⟩,λe Np=>?_⟩;obtain⟨a,wr,rfl,ha⟩:=he e Np;exact⟨a,wr,rfl,pF,.inl (by rw[ha];exact hm)⟩
theorem SG.ex{s0 j bj bc:Nat}{vj v0 v1:Value}{w w₁:World}(h:SG Wg C k B L E s0 j bj bc vj v0 v1 w)(hb:Bs C B w₁)(r:Ex Wg C k B (λi=>¬E.Dx k i) (λ_=>False) w w₁):SG Wg C k B L E s0 j bj bc vj v0 v1 w₁:=
 ⟨h.sf.ex hb r (λ_=>False.elim),h.lj,h.lc,h.ne,r.own _ h.mj,r.own _ h.mc,(r.mine _ h.mj id).trans h.hj,(r.mine _ h.mc id).trans h.hc⟩
theorem SF.cell{s0 j N:Nat}{w:World}{c:Ub}(h:SF Wg C k B L E s0 j w)(hj:j<k)(hcj:E.cs[j]?=some c)(hm:qO w N)(hN:N≠C/\B<=N)(hh:w.heap[N]?=some (.cells (tV c.ys) 5)):
  SF Wg C k B L E w.heap.size (j+1) (w.setCell ⟨C,j,none⟩ (.slice (some ⟨N,0,none⟩) L L)):=by
 obtain⟨arr,EJ,CJ⟩:=h.pay;have hx:∀x,x≠C->(w.setCell ⟨C,j,none⟩ (.slice (some ⟨N,0,none⟩) L L)).heap[x]?=w.heap[x]?:=λx hx=>bF _ _ _ _ hx
 have hg:∀b,qO w b->qO (w.setCell ⟨C,j,none⟩ (.slice (some ⟨N,0,none⟩) L L)) b:=λb hb=>su (w:=w) (w':=w.setCell _ _) rfl dI hb
 refine⟨h.bs.set _ _,⟨_,heap_set w EJ _ _,by simpa using CJ⟩,h.low.AV (λb _ _ hb=>hx b hb),⟨h.bs.hC,h.bs.hB,dI⟩,λt d ht hmt hd=>?_⟩;by_cases htj:t=j
 .subst htj;rw[hcj]at hd;cases hd;exact⟨N,h.bs.lt hm,hg N hm,hN,Uh ⟨arr,EJ,CJ⟩ hj _,(hx N hN.1).trans hh⟩
 .obtain⟨N',h1,h2,h3,h4,h5⟩:=h.dn t d ae hmt hd;refine⟨N',h.bs.lt h2,hg N' h2,h3,?_,(hx N' h3.1).trans h5⟩;simp only[Has,World.cell?,EJ]at h4;simp only[Has,World.cell?,heap_set w EJ];rw[jr (λe:j=t=>htj e.symm)];exact h4
theorem SF.book{s0 j:Nat}{w:World}(h:SF Wg C k B L E s0 j w)(hj:E.Dx k j){l:List Nat}(hl:∀b∈l,b<w.heap.size)(hk:∀b,qO w b->b<s0->b∈l):SF Wg C k B L E s0 (j+1) (w.out (book w.heap.size l)):=by
 refine⟨⟨pz,h.bs.hC,h.bs.hB,λb hb=>by rw[vH]at hb;exact hl b hb⟩,h.pay,h.low.AV (λ_ _ _ _=>rfl),h.sb,λt c ht hm hc=>?_⟩;by_cases htj:t=j
 .exact absurd (htj▸hj) hm
 .obtain⟨N,h1,h2,h3,h4,h5⟩:=h.dn t c ae hm hc;exact⟨N,h1,.inl (by rw[vH];exact hk N h2 h1),h3,h4,h5⟩
end
end Go.Proofs.Y
namespace Go.Proofs.Y
open Go.Proofs.Tryz
open Go.Conc Go.ConcN Go.RowKit Go.Gh Go.Conc.Lib Go.ConcR.Gen Go.ConcN.Gen
open Go.ConcR (Payload)
def TS(E:Env)(Wg k j:Nat)(T:Array Value):Prop:=
 ∃v0 v1 v2 v3 v4 v5 v6 v8 v9 VE Xb SL SN SQ Pn Po v20 v21 v22 Tv v24 Tz v26 ZU v28 v29 v30 v31 v32 v33 v34 v35 v36 v37 v38 v39 v40 v41 v42 v43 v44 v45 v46 v50 v51 v52 v53 v54 v55 v56 v57 v58 v59 v60 v61 v62 v63 v64 v65 v66 v67 v68:Value,T=#[v0,v1,v2,v3,v4,v5,v6,.pointer (some ⟨E.bd,0,none⟩),v8,v9,.pointer (some ⟨E.bv,0,none⟩),.pointer (some ⟨E.ba,0,none⟩),.pointer (some ⟨Wg,0,none⟩),VE,Xb,SL,SN,SQ,Pn,Po,v20,v21,v22,Tv,v24,Tz,v26,ZU,v28,v29,v30,v31,v32,v33,v34,v35,v36,v37,v38,v39,v40,v41,v42,v43,v44,v45,v46,.slice (some ⟨E.bp,E.op,none⟩) k E.cp,.int .i64 ((k:Nat):Int),.int .i64 ((j:Nat):Int),v50,v51,v52,v53,v54,v55,v56,v57,v58,v59,v60,v61,v62,v63,v64,v65,v66,v67,v68]
def TS2(E:Env)(Wg k j bj bc:Nat)(T:Array Value):Prop:=
 ∃v0 v1 v2 v3 v4 v5 v6 v8 v9 SL SN SQ Pn Po v20 v21 v22 Tv v24 Tz v26 ZU v28 v29 v30 v31 v32 v33 v34 v35 v36 v37 v38 v39 v40 v41 v42 v43 v44 v45 v46 v50 v51 v52 v53 v54 v55 v56 v58 v59 v60 v61 v62 v63 v64 v65 v66 v67 v68:Value,T=#[v0,v1,v2,v3,v4,v5,v6,.pointer (some ⟨E.bd,0,none⟩),v8,v9,.pointer (some ⟨E.bv,0,none⟩),.pointer (some ⟨E.ba,0,none⟩),.pointer (some ⟨Wg,0,none⟩),.pointer (some ⟨bj,0,none⟩),.pointer (some ⟨bc,0,none⟩),SL,SN,SQ,Pn,Po,v20,v21,v22,Tv,v24,Tz,v26,ZU,v28,v29,v30,v31,v32,v33,v34,v35,v36,v37,v38,v39,v40,v41,v42,v43,v44,v45,v46,.slice (some ⟨E.bp,E.op,none⟩) k E.cp,.int .i64 ((k:Nat):Int),.int .i64 ((j:Nat):Int),v50,v51,v52,v53,v54,v55,v56,.bool (decide (((E.px j:Nat):Int)=((j:Nat):Int))),v58,v59,v60,v61,v62,v63,v64,v65,v66,v67,v68]
def Eh:Code->Code| .seq x _=>x|c=>c
def yu:Code->Code| .seq _ y=>y|c=>c
def cIn:Code->Code| .block _ c=>c| .loop c=>c|c=>c
def F6:Code->Array Oper| .region _ o _=>o|_=>#[]
def amW:Code->Code| .cond _ x _=>x|c=>c
noncomputable def zf:Code:=yu (yu (yu (yu (yu (yu (yu (yu (Tryz.f67.body.getD .skip))))))))
noncomputable def uY:Code:=cIn (cIn (yu (Eh zf)))
noncomputable def RZ:Code:=cIn (Eh (yu (yu uY)))
noncomputable def q13:{x:Array Oper//x=F6 (Eh (Eh zf))}:=⟨_,by(simp only[zf,Eh,yu,F6,Tryz.f67,aB];rfl)⟩
noncomputable def o13:Array Oper:=q13.1
noncomputable def q14:{x:Array Oper//x=F6 (Eh uY)}:=⟨_,by(simp only[uY,zf,Eh,yu,cIn,F6,Tryz.f67,aB];rfl)⟩
noncomputable def o14:Array Oper:=q14.1
noncomputable def q15:{x:Array Oper//x=F6 (Eh RZ)}:=⟨_,by(simp only[RZ,uY,zf,Eh,yu,cIn,F6,Tryz.f67,aB];rfl)⟩
noncomputable def o15:Array Oper:=q15.1
noncomputable def q16:{x:Array Oper//x=F6 (Eh (Eh (yu RZ)))}:=⟨_,by(simp only[RZ,uY,zf,Eh,yu,cIn,F6,Tryz.f67,aB];rfl)⟩
noncomputable def o16:Array Oper:=q16.1
noncomputable def q17:{x:Array Oper//x=F6 (Eh (amW (yu (Eh (yu RZ)))))}:=⟨_,by(simp only[RZ,uY,zf,Eh,yu,cIn,F6,amW,Tryz.f67,aB];rfl)⟩
noncomputable def o17:Array Oper:=q17.1
noncomputable def q18:{x:Array Oper//x=F6 (Eh (yu (yu RZ)))}:=⟨_,by(simp only[RZ,uY,zf,Eh,yu,cIn,F6,Tryz.f67,aB];rfl)⟩
noncomputable def o18:Array Oper:=q18.1
noncomputable def q19:{x:Array Oper//x=F6 (yu (yu (yu RZ)))}:=⟨_,by(simp only[RZ,uY,zf,Eh,yu,cIn,F6,Tryz.f67,aB];rfl)⟩
noncomputable def o19:Array Oper:=q19.1
noncomputable def q20:{x:Array Oper//x=F6 (yu (yu (yu uY)))}:=⟨_,by(simp only[uY,zf,Eh,yu,cIn,F6,Tryz.f67,aB];rfl)⟩
noncomputable def o20:Array Oper:=q20.1
noncomputable def q21:{x:Array Oper//x=F6 (Eh (yu zf))}:=⟨_,by(simp only[zf,Eh,yu,F6,Tryz.f67,aB];rfl)⟩
noncomputable def o21:Array Oper:=q21.1
noncomputable def q22:{x:Array Oper//x=F6 (Eh (yu (yu zf)))}:=⟨_,by(simp only[zf,Eh,yu,F6,Tryz.f67,aB];rfl)⟩
noncomputable def o22:Array Oper:=q22.1
noncomputable def aeF:Code:=.seq (.region 22 o22 false) .ret
noncomputable def I8:Code:=.seq (.region 21 o21 false) aeF
noncomputable def afJ:Code:=.cond (.tmp 57) (.seq (.region 17 o17 true) (.exit 3)) .skip
noncomputable def rGo:Code:=.seq (.region 18 o18 false) (.region 19 o19 false)
theorem ahQ:zf=.seq (.seq (.region 13 o13 false) (.block 2 (.loop uY))) I8:=ag
theorem aav:uY=.seq (.region 14 o14 false) (.seq (.cond (.tmp 50) .skip (.exit 2)) (.seq (.block 3 RZ) (.region 20 o20 false))):=ag
theorem alo:RZ=.seq (.region 15 o15 false) (.seq (.seq (.region 16 o16 false) afJ) rGo):=ag
theorem n14:o14.size=1:=ag
theorem n15:o15.size=7:=ag
theorem n16:o16.size=4:=ag
theorem n18:o18.size=1:=ag
theorem n19:o19.size=2:=ag
theorem n20:o20.size=2:=ag
theorem n21:o21.size=1:=ag
section
variable [Payload][qV]{main:Bool}{Wg C k B L:Nat}{E:Env}
def KR(Wg C k B L:Nat)(E:Env)(cs:List Frame)(ids:List Nat)(g:Goroutine)(w:World):Prop:=
 ∃T s0 j ops,g=G ((base 67).at ⟨T,[]⟩ (.inRegion ops []::[.code aeF])) cs/\TS E Wg k j T/\SF Wg C k B L E s0 k w/\∀x,x∈ids↔E.Dx k x
theorem KR.rely{cs:List Frame}{ids:List Nat}{g:Goroutine}{w w₁:World}(h:KR Wg C k B L E cs ids g w)(r:Ro Wg C k B (λi=>¬E.Dx k i) w w₁):KR Wg C k B L E cs ids g w₁:=by exact ax4
def StS(Wg C k B L:Nat)(E:Env)(cs:List Frame):Nat->List Nat->Goroutine->World->Prop
 |0,ids=>alp prog link.tWg Wg (KR Wg C k B L E cs) ids
 |r+1,ids=>aeG prog link.tWg Wg C k B (E.Dx k) (V7 C L (E.res L)) (Sp prog link.tWg Wg C k B (E.Dx k) (V7 C L (E.res L)) (KR Wg C k B L E cs) r) ids
theorem ahR{cs:List Frame}(r:Nat)(ids:List Nat)(g:Goroutine)(w:World):Sp prog link.tWg Wg C k B (E.Dx k) (V7 C L (E.res L)) (KR Wg C k B L E cs) r ids g w↔∃m,Goes prog true (Ro Wg C k B (λi=>¬E.Dx k i)) (Dg Wg C k B (λi=>¬E.Dx k i)) (StS Wg C k B L E cs r ids) m g w:=by cases r<;>exact Iff.rfl
theorem anH{cs:List Frame}:∃m,∀(T:Array Value)(w:World)(ids:List Nat)(s0:Nat),TS E Wg k k T->SF Wg C k B L E s0 k w->(∀x,x∈ids↔E.Dx k x)->
  Goes prog true (Ro Wg C k B (λi=>¬E.Dx k i)) (Dg Wg C k B (λi=>¬E.Dx k i)) (StS Wg C k B L E cs 0 ids) m (G ((base 67).at ⟨T,[]⟩ (.code uY::.inLoop uY::.inBlock 2::[.code I8])) cs) w:=by
 co_apply Exists.intro;rintro T w ids s0 ⟨v0,v1,v2,v3,v4,v5,v6,v8,v9,VE,Xb,SL,SN,SQ,Pn,Po,v20,v21,v22,Tv,v24,Tz,v26,ZU,v28,v29,v30,v31,v32,v33,v34,v35,v36,v37,v38,v39,v40,v41,v42,v43,v44,v45,v46,v50,v51,v52,v53,v54,v55,v56,v57,v58,v59,v60,v61,v62,v63,v64,v65,v66,v67,v68,rfl⟩ hF Bf;have GH:¬((k:Int)<(k:Int)):=ae;generalize hkk:Item.inLoop uY::[Item.inBlock 2,Item.code I8]=kk;rw[aav]
 (co_apply ay rfl;intro _ qC;replace hF:=SF.rely hF qC;clear qC;rw[aC];simp only[aI];refine⟨aG p_ _,?_⟩)
 (co_apply ay rfl;intro _ qC;replace hF:=SF.rely hF qC;clear qC;rw[cO,n14];simp only[aI,List.range,List.range.loop];refine⟨aG p_ _,?_⟩;simp only[o14,q14])
 (co_apply ay rfl;intro _ qC;replace hF:=SF.rely hF qC;clear qC
  refine goes_oper_k rfl rfl au (λKq uA=>?_)
  (skip)
  go_simp
  try(unfold stored;go_simp)
  refine uA _ _ ⟨?_,?_⟩
  ·(co_quiet p_)
  clear uA Kq
  try walk_nrm)
 (co_apply ay rfl;intro _ qC;replace hF:=SF.rely hF qC;clear qC;rw[aH];simp only[aI];refine⟨aG p_ _,?_⟩)
 (co_apply ay rfl;intro _ qC;replace hF:=SF.rely hF qC;clear qC;rw[aC];simp only[aI];refine⟨aG p_ _,?_⟩)
 (co_apply ay rfl;intro _ qC;replace hF:=SF.rely hF qC;clear qC)
 rw[jY (t:=false) rfl];simp only[aI,bu,aU];refine⟨aG p_ _,?_⟩
 (co_apply ay rfl;intro _ qC;replace hF:=SF.rely hF qC;clear qC)
 subst hkk;refine goes_exit rfl ?_;refine⟨aG p_ _,?_⟩;unfold I8
 (co_apply ay rfl;intro _ qC;replace hF:=SF.rely hF qC;clear qC;rw[aC];simp only[aI];refine⟨aG p_ _,?_⟩)
 (co_apply ay rfl;intro _ qC;replace hF:=SF.rely hF qC;clear qC;rw[cO,n21];simp only[aI,List.range,List.range.loop];refine⟨aG p_ _,?_⟩;simp only[o21,q21])
 (co_apply ay rfl;intro _ qC;replace hF:=SF.rely hF qC;clear qC)
 refine goes_call rfl rfl au rfl L8.f_wait (nm_wait link) rfl ⟨aG p_ _,?_⟩
 walk_nrmf waitFn
 refine bI (n:=0) λw₁ hR=>?_
 replace hF:=hF.rely hR;clear hR;refine⟨rfl,_,ahS L8,_,s0,k,_,rfl,?_,hF,Bf⟩;walk_nrm;exact⟨_,_,_,_,_,_,_,_,_,_,_,_,_,_,_,_,_,_,_,_,_,_,_,_,_,_,_,_,_,_,_,_,_,_,_,_,_,_,_,_,_,_,_,_,_,_,_,_,_,_,_,_,_,_,_,_,_,_,_,_,_,_,rfl⟩
theorem ahT(hE:QJ E k L){cs:List Frame}{j:Nat}(hj:j<k){c:Ub}(hcj:E.cs[j]?=some c)(m:Nat):∃n,∀(T:Array Value)(w:World)(s0:Nat)(Stop:Goroutine->World->Prop),TS E Wg k j T->SF Wg C k B L E s0 j w->
  (∀T' w' s1 bj bc,TS2 E Wg k j bj bc T'->SG Wg C k B L E s1 j bj bc (.int .i64 ((j:Nat):Int)) (.int .i64 ((E.px j:Nat):Int)) (.slice c.bs L c.co) w'->
   Goes prog true (Ro Wg C k B (λi=>¬E.Dx k i)) (Dg Wg C k B (λi=>¬E.Dx k i)) Stop m (G ((base 67).at ⟨T',[]⟩ (.code afJ::.code rGo::.inBlock 3::.code (.region 20 o20 false)::.inLoop uY::.inBlock 2::[.code I8])) cs) w')->
  Goes prog true (Ro Wg C k B (λi=>¬E.Dx k i)) (Dg Wg C k B (λi=>¬E.Dx k i)) Stop n (G ((base 67).at ⟨T,[]⟩ (.code uY::.inLoop uY::.inBlock 2::[.code I8])) cs) w:=by
 co_apply Exists.intro;rintro T w s0 Stop ⟨v0,v1,v2,v3,v4,v5,v6,v8,v9,VE,Xb,SL,SN,SQ,Pn,Po,v20,v21,v22,Tv,v24,Tz,v26,ZU,v28,v29,v30,v31,v32,v33,v34,v35,v36,v37,v38,v39,v40,v41,v42,v43,v44,v45,v46,v50,v51,v52,v53,v54,v55,v56,v57,v58,v59,v60,v61,v62,v63,v64,v65,v66,v67,v68,rfl⟩ hF acp;replace hF:=hF.base;generalize x9:w.heap.size=s1 at hF;clear x9 s0;have hjI:(j:Int)<(k:Int):=ae;have JR:=hE.k1;have hpx:=hE.pb j hj;generalize Item.inLoop uY::[Item.inBlock 2,Item.code I8]=kk at acp⊢;rw[aav]
 (co_apply ay rfl;intro _ qC;replace hF:=SF.rely hF qC;clear qC;rw[aC];simp only[aI];refine⟨aG p_ _,?_⟩)
 (co_apply ay rfl;intro _ qC;replace hF:=SF.rely hF qC;clear qC;rw[cO,n14];simp only[aI,List.range,List.range.loop];refine⟨aG p_ _,?_⟩;simp only[o14,q14])
 (co_apply ay rfl;intro _ qC;replace hF:=SF.rely hF qC;clear qC
  refine goes_oper_k rfl rfl au (λKq uA=>?_)
  (skip)
  go_simp
  try(unfold stored;go_simp)
  refine uA _ _ ⟨?_,?_⟩
  ·(co_quiet p_)
  clear uA Kq
  try walk_nrm)
 (co_apply ay rfl;intro _ qC;replace hF:=SF.rely hF qC;clear qC;rw[aH];simp only[aI];refine⟨aG p_ _,?_⟩)
 (co_apply ay rfl;intro _ qC;replace hF:=SF.rely hF qC;clear qC;rw[aC];simp only[aI];refine⟨aG p_ _,?_⟩)
 (co_apply ay rfl;intro _ qC;replace hF:=SF.rely hF qC;clear qC)
 rw[jY (t:=true) rfl];simp only[aI,aF];refine⟨aG p_ _,?_⟩
 (co_apply ay rfl;intro _ qC;replace hF:=SF.rely hF qC;clear qC;rw[dM];simp only[aI];refine⟨aG p_ _,?_⟩)
 (co_apply ay rfl;intro _ qC;replace hF:=SF.rely hF qC;clear qC;rw[aC];simp only[aI];refine⟨aG p_ _,?_⟩)
 (co_apply ay rfl;intro _ qC;replace hF:=SF.rely hF qC;clear qC;rw[jZ];simp only[aI];refine⟨aG p_ _,?_⟩)
 rw[alo]
 (co_apply ay rfl;intro _ qC;replace hF:=SF.rely hF qC;clear qC;rw[aC];simp only[aI];refine⟨aG p_ _,?_⟩)
 (co_apply ay rfl;intro _ qC;replace hF:=SF.rely hF qC;clear qC;rw[cO,n15];simp only[aI,List.range,List.range.loop];refine⟨aG p_ _,?_⟩;simp only[o15,q15])
 (co_apply ay rfl;intro _ qC;replace hF:=SF.rely hF qC;clear qC
  refine goes_oper_k rfl rfl au (λKq uA=>?_)
  (skip)
  go_simp
  try(unfold stored;go_simp)
  refine uA _ _ ⟨?_,?_⟩
  ·(co_quiet p_)
  clear uA Kq
  try walk_nrm)
 (co_apply ay rfl;intro _ qC;replace hF:=SF.rely hF qC;clear qC
  refine goes_oper_k rfl rfl au (λKq uA=>?_)
  (skip)
  go_simp
  try(unfold stored;go_simp)
  refine uA _ _ ⟨?_,?_⟩
  ·(co_still p_)
  clear uA Kq
  try walk_nrm)
 (co_apply ay rfl;intro _ qC;replace hF:=SF.rely hF qC;clear qC)
 refine goes_oper_k rfl rfl au (λK hK=>?_);have h0:=hF.low.hp0 j hj;have h1:=hF.low.EJ j c hcj;go_simp;refine hK _ _ ⟨?_,?_⟩
 .refine tK (b:=E.bp) (.inr hF.low.lp) (by have:=hF.low.lp.1;have:=hF.bs.hB;omega) ?_;intro e he;have hm:=mem_listed he;simp[go_sem, *]at hm;rcases hm with rfl|rfl<;>exact⟨_,rfl,rfl⟩
 clear hK K h0 h1
 try walk_nrm
 (co_apply ay rfl;intro _ qC;replace hF:=SF.rely hF qC;clear qC
  refine goes_oper_k rfl rfl au (λKq uA=>?_)
  (skip)
  go_simp
  try(unfold stored;go_simp)
  refine uA _ _ ⟨?_,?_⟩
  ·(rw[listed_nil jT];exact y_ hF.bs.hC _ rfl)
  clear uA Kq
  try walk_nrm)
 replace hF:=hF.aek (.int .i64 0);generalize hN:Array.size (World.heap _)=bj at hF⊢;clear hN
 (co_apply ay rfl;intro _ qC;replace hF:=SJ.rely hF qC;clear qC
  refine goes_oper_k rfl rfl au (λKq uA=>?_)
  (skip)
  go_simp
  try(unfold stored;go_simp)
  refine uA _ _ ⟨?_,?_⟩
  ·(rw[listed_nil jT];exact y_ hF.sf.bs.hC _ rfl)
  clear uA Kq
  try walk_nrm)
 replace hF:=hF.apm (.int .i64 0) (.slice none 0 0);generalize hN:Array.size (World.heap _)=bc at hF⊢;clear hN
 (co_apply ay rfl;intro _ qC;replace hF:=SG.rely hF qC;clear qC
  refine goes_oper_k rfl rfl au (λKq uA=>?_)
  (have h0:=hF.cj.1;have h1:=hF.cj.2)
  go_simp
  try(unfold stored;go_simp)
  refine uA _ _ ⟨?_,?_⟩
  ·(refine PH hF.mj hF.jC (hF.sf.bs.lt hF.mj) ?_;co_evs (exact⟨_,_,rfl,rfl⟩))
  clear uA Kq
  try walk_nrm)
 clear h0 h1;replace hF:=hF.anG (.int .i64 ((j:Nat):Int))
 (co_apply ay rfl;intro _ qC;replace hF:=SG.rely hF qC;clear qC)
 refine goes_oper_k rfl rfl au (λK hK=>?_);have h0:=hF.cc.1.1;have h1:=hF.cc.1.2;have h2:=hF.cc.2.1;have h3:=hF.cc.2.2;go_simp;refine hK _ _ ⟨?_,?_⟩
 .refine aln hF.mc hF.cC (hF.sf.bs.lt hF.mc) ?_;intro e he;have hm:=mem_listed he;simp[go_sem, *]at hm;rcases hm with rfl|rfl<;>exact⟨_,_,rfl,rfl⟩
 clear hK K h0 h1 h2 h3
 try walk_nrm
 replace hF:=hF.arF (.int .i64 ((E.px j:Nat):Int)) (.slice c.bs L c.co)
 (co_apply ay rfl;intro _ qC;replace hF:=SG.rely hF qC;clear qC;rw[aH];simp only[aI];refine⟨aG p_ _,?_⟩)
 (co_apply ay rfl;intro _ qC;replace hF:=SG.rely hF qC;clear qC;rw[aC];simp only[aI];refine⟨aG p_ _,?_⟩)
 (co_apply ay rfl;intro _ qC;replace hF:=SG.rely hF qC;clear qC;rw[aC];simp only[aI];refine⟨aG p_ _,?_⟩)
 (co_apply ay rfl;intro _ qC;replace hF:=SG.rely hF qC;clear qC;rw[cO,n16];simp only[aI,List.range,List.range.loop];refine⟨aG p_ _,?_⟩;simp only[o16,q16])
 (co_apply ay rfl;intro _ qC;replace hF:=SG.rely hF qC;clear qC
  refine goes_oper_k rfl rfl au (λKq uA=>?_)
  (skip)
  go_simp
  try(unfold stored;go_simp)
  refine uA _ _ ⟨?_,?_⟩
  ·(co_still p_)
  clear uA Kq
  try walk_nrm)
 (co_apply ay rfl;intro _ qC;replace hF:=SG.rely hF qC;clear qC
  refine goes_oper_k rfl rfl au (λKq uA=>?_)
  (have h0:=hF.cc.1.1)
  go_simp
  try(unfold stored;go_simp)
  refine uA _ _ ⟨?_,?_⟩
  ·(refine tK (.inl hF.mc) (hF.sf.bs.lt hF.mc) ?_;co_evs (exact⟨_,rfl,rfl⟩))
  clear uA Kq
  try walk_nrm)
 clear h0
 (co_apply ay rfl;intro _ qC;replace hF:=SG.rely hF qC;clear qC
  refine goes_oper_k rfl rfl au (λKq uA=>?_)
  (have h0:=hF.cj.1)
  go_simp
  try(unfold stored;go_simp)
  refine uA _ _ ⟨?_,?_⟩
  ·(refine tK (.inl hF.mj) (hF.sf.bs.lt hF.mj) ?_;co_evs (exact⟨_,rfl,rfl⟩))
  clear uA Kq
  try walk_nrm)
 clear h0
 (co_apply ay rfl;intro _ qC;replace hF:=SG.rely hF qC;clear qC
  refine goes_oper_k rfl rfl au (λKq uA=>?_)
  (skip)
  go_simp
  try(unfold stored;go_simp)
  refine uA _ _ ⟨?_,?_⟩
  ·(co_quiet p_)
  clear uA Kq
  try walk_nrm)
 (co_apply ay rfl;intro _ qC;replace hF:=SG.rely hF qC;clear qC;rw[aH];simp only[aI];refine⟨aG p_ _,?_⟩)
 exact acp _ _ _ _ _ ⟨_,_,_,_,_,_,_,_,_,_,_,_,_,_,_,_,_,_,_,_,_,_,_,_,_,_,_,_,_,_,_,_,_,_,_,_,_,_,_,_,_,_,_,_,_,_,_,_,_,_,_,_,_,_,_,_,_,_,_,rfl⟩ hF
