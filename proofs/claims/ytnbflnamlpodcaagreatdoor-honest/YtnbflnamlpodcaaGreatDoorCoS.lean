import Derived.Test.YtnbflnamlpodcaaGreatDoorCoV
set_option maxHeartbeats 4000000
set_option maxRecDepth 100000
namespace Go.Proofs.Y
open Go.Proofs.Tryz
open Go.Conc Go.ConcN Go.RowKit Go.Gh Go.Conc.Lib Go.ConcR.Gen Go.ConcN.Gen
open Go.ConcR (Payload)
section
variable [Payload][rq]{main:Bool}{Wg C n B:Nat}{Cl:Nat->Prop}
structure Cap where
 ba:Nat
 bj:Nat
 bv:Nat
 bW:Nat
 oW:Nat
 cW:Nat
 br:Nat
 oR:Nat
 cR:Nat
 bd:Nat
 bD:Nat
 oD:Nat
 cD:Nat
structure WIn(Wg C n B:Nat)(c:Cap)(k L idx:Nat)(ws:aA)(cs:List UK)(w:ah):Prop where
 bs:Bs C B w
 pay:PayAt C n w
 ra:TD Wg C B w c.ba
 va:w.cell? ⟨c.ba,0,none⟩=some (.slice (some ⟨C,0,none⟩) k k)
 rj:TD Wg C B w c.bj
 vj:w.cell? ⟨c.bj,0,none⟩=some (.int .i64 ((idx:Nat):Int))
 rv:TD Wg C B w c.bv
 vv:w.cell? ⟨c.bv,0,none⟩=some (.slice (some ⟨c.bW,c.oW,none⟩) k c.cW)
 rW:TD Wg C B w c.bW
 vW:w.cell? ⟨c.bW,c.oW+idx,none⟩=some (.slice (some ⟨c.br,c.oR,none⟩) k c.cR)
 rd:TD Wg C B w c.bd
 vd:w.cell? ⟨c.bd,0,none⟩=some (.slice (some ⟨c.bD,c.oD,none⟩) k c.cD)
 cin:CIn Wg C B c.br c.oR c.bD c.oD L ws cs w
theorem WIn.ex{w w₁:ah}{c:Cap}{k L idx:Nat}{ws:aA}{cs:List UK}(h:WIn Wg C n B c k L idx ws cs w)(hb:Bs C B w₁)(r:Ex Wg C n B Cl (λ_=>False) w w₁):WIn Wg C n B c k L idx ws cs w₁:=by
 have st:∀{b:Nat},TD Wg C B w b->∀o,w₁.cell? ⟨b,o,none⟩=w.cell? ⟨b,o,none⟩:=λhb o=>awi
 exact⟨hb,r.pay h.pay,r.rdb h.ra,(st h.ra _).trans h.va,r.rdb h.rj,(st h.rj _).trans h.vj,r.rdb h.rv,(st h.rv _).trans h.vv,r.rdb h.rW,(st h.rW _).trans h.vW,r.rdb h.rd,(st h.rd _).trans h.vd,h.cin.ex r⟩
theorem WIn.rely{w w₁:ah}{c:Cap}{k L idx:Nat}{ws:aA}{cs:List UK}(h:WIn Wg C n B c k L idx ws cs w)(r:Ro Wg C n B Cl w w₁):WIn Wg C n B c k L idx ws cs w₁:=h.ex (h.bs.rely r) r.ex
def w0:aJ:=baseD 111
noncomputable def Zu:aJ:={(default:aJ)with fn:=prog.funcs.size,defers:=[],mode:=.panicking [goexitEntry]}
noncomputable def aiE:Code:=Tryz.f111.body.getD .skip
def Ru(Wg:Nat)(c:Cap):aB:=#[.pointer (some ⟨Wg,0,none⟩),.pointer (some ⟨c.bv,0,none⟩),.pointer (some ⟨c.bj,0,none⟩),.pointer (some ⟨c.bd,0,none⟩),.pointer (some ⟨c.ba,0,none⟩)]
def aa8(Wg:Nat)(c:Cap):Deferred:={target:=.fn (.func 111) (Ru Wg c),args:=#[]}
omit [Payload][rq]in
theorem aoK(c:Cap)(w:ah):stepG prog false (born prog (aa8 Wg c)) w=.go (G (w0.at ⟨Ru Wg c++Array.replicate 9 undef,[]⟩ [.code aiE]) [Zu]) w #[]:=by simp[born,aa8,Ru,stepG,unwind,callDeferred,invoke,callFunc,func111,Tryz.f111,seen,GStep.after,G,Frame.enter,Frame.at,w0,baseD,Zu,aiE]
omit [Payload][rq]in
theorem al7(T:aB):QuitsD prog 2 0 (G {w0.at ⟨T,[]⟩ []with mode:=.returning} [Zu]):=by
 refine QuitsD.ctl (g':=G Zu []) rfl (λw=>?_) ?_
 .simp[G,stepG,unwind,doReturn,results,Frame.at,w0,baseD,Zu,func111,Tryz.f111,seen,GStep.after,goexitEntry]
 refine QuitsD.ctl (g':={G Zu []with status:=.finished}) rfl (λw=>?_) ⟨rfl,rfl⟩;simp[G,stepG,unwind,Zu,goexitEntry,Frame.catches];rfl
theorem asw(k L:Nat)(hk0:0<k)(hk:k<=128)(hL:L<=140737488355328)(idx:Nat)(alk:idx<k):∃m,∀(w:ah)(c:Cap)(ws:aA)(cs:List UK)(res:Nat->aA),DU ws k->cs.length=k->(∀x∈ws,x<256)->(∀c∈cs,DU c.ys L/\∀y∈c.ys,y<256)->
  res idx=comb (FC ws cs) (List.replicate L 0)->WIn Wg C k B c k L idx ws cs w->Wk prog link.tWg Wg C k B (W_ C L res) idx m (born prog (aa8 Wg c)) w:=by
 obtain⟨q,hq⟩:=Yc (main:=false) (Wg:=Wg) (C:=C) (n:=k) (B:=B) (Cl:=(· =idx)) k L hk0 hk hL;refine⟨?m,λw c ws cs res hlw hlc hws hcs Ce hF=>?_⟩
 case m=>exact(3+(10*(q+3)+1+1))+1+1+1+1+1
 have hiI:(idx:Int)<(k:Int):=ag;have T:=qj (Wg:=Wg) (C:=C) (n:=k) (B:=B) (Cl:=(· =idx));unfold Wk;refine aO rfl λw₁ h₁=>?_
 replace hF:=hF.rely h₁;clear h₁;rw[aoK];refine⟨T.idle _,?_⟩;simp only[Ru,aiE,Tryz.f111,aQ,dR,dQ,dM,dP,dA,bT];refine aO rfl λw₁ h₁=>?_
 replace hF:=hF.rely h₁;clear h₁;rw[aW];refine⟨T.idle _,?_⟩;refine aO rfl λw₁ h₁=>?_
 replace hF:=hF.rely h₁;clear h₁;rw[dS];refine⟨T.idle _,?_⟩;simp only[fU,dJ,dY,bM,List.range,List.range.loop];refine aO rfl λw₁ h₁=>?_
 replace hF:=hF.rely h₁;clear h₁;rw[stepG_defer rfl rfl aC rfl];refine⟨T.idle _,?_⟩;walk_nrm;refine aO rfl λw₁ h₁=>?_
 replace hF:=hF.rely h₁;clear h₁;rw[bf];refine⟨T.idle _,?_⟩;refine wpC_goes (m:=3) (Q:=λe a' w'=>e=.normal/\a'.defers=[dcall 50 #[.pointer (some ⟨Wg,0,none⟩)]]/\∃v,WD1 C L res idx v w') (AX T ae5 (S:=WIn Wg C k B c k L idx ws cs) (lst:=9) (nf:=q) aj (λw₁ h₁=>?_)) rfl aC ?_
 .replace hF:WIn Wg C k B c k L idx ws cs {w₁ with drawn:=w₁.drawn+1}:=by
   have:=hF.rely h₁;exact⟨⟨this.bs.tg,this.bs.hC,this.bs.hB,this.bs.ow⟩,this.pay,this.ra,this.va,this.rj,this.vj,this.rv,this.vv,this.rW,this.vW,this.rd,this.vd,⟨this.cin.rw,this.cin.lw,this.cin.rc,this.cin.lc,this.cin.hw,this.cin.hc,this.cin.xR⟩⟩
  clear h₁;have Oj:∀x y,WIn Wg C k B c k L idx ws cs x->Ro Wg C k B (· =idx) x y->WIn Wg C k B c k L idx ws cs y:=λ_ _ h r=>h.rely r
  have Ti:∀(a:Act)(x y:ah),(Exit.normal=.normal/\a.defers=[dcall 50 #[.pointer (some ⟨Wg,0,none⟩)]]/\∃v,WD1 C L res idx v x)->Ro Wg C k B (· =idx) x y->(Exit.normal=.normal/\a.defers=[dcall 50 #[.pointer (some ⟨Wg,0,none⟩)]]/\∃v,WD1 C L res idx v y):=λa x y ⟨h1,h2,v,h3⟩ r=>⟨h1,h2,v,h3.rely r⟩
  generalize{w₁ with drawn:=w₁.drawn+1}=w2 at hF⊢;simp only[fU,dJ,dY,Nat.reduceAdd,bM]
  (co_applyP sS T Oj Ti (i:=0) rfl aj aj aj aj aj (.inl ⟨aI,λ_ hw=>⟨run_eq_of ?aa1,?UM⟩⟩) hF ?aiw
   case aa1=>
    intro Kq uK
    (have h1:=hw.va)
    exact ayi
   case UM=>
    (have h1:=hw.va)
    (refine ui hw.ra (hw.bs.z_ hw.ra) ?_;co_evs (exact⟨_,rfl,rfl⟩))
   try walk_nrm)
  (co_applyP sS T Oj Ti (i:=1) rfl aj aj aj aj aj (.inl ⟨aI,λ_ hw=>⟨run_eq_of ?aa2,?UN⟩⟩) hF ?aix
   case aa2=>
    intro Kq uK
    (have h1:=hw.vj)
    exact ayi
   case UN=>
    (have h1:=hw.vj)
    (refine ui hw.rj (hw.bs.z_ hw.rj) ?_;co_evs (exact⟨_,rfl,rfl⟩))
   try walk_nrm)
  (co_applyP sS T Oj Ti (i:=2) rfl aj aj aj aj aj (.inl ⟨aI,λ_ hw=>⟨run_eq_of ?aa3,?UO⟩⟩) hF ?aiy
   case aa3=>
    intro Kq uK
    (have h1:=hw.vv)
    exact ayi
   case UO=>
    (have h1:=hw.vv)
    (refine ui hw.rv (hw.bs.z_ hw.rv) ?_;co_evs (exact⟨_,rfl,rfl⟩))
   try walk_nrm)
  (co_applyP sS T Oj Ti (i:=3) rfl aj aj aj aj aj (.inl ⟨aI,λ_ hw=>⟨run_eq_of ?aa4,?UQ⟩⟩) hF ?aiz
   case aa4=>
    intro Kq uK
    (have h1:=hw.vj)
    exact ayi
   case UQ=>
    (have h1:=hw.vj)
    (refine ui hw.rj (hw.bs.z_ hw.rj) ?_;co_evs (exact⟨_,rfl,rfl⟩))
   try walk_nrm)
  (co_applyP sS T Oj Ti (i:=4) rfl aj aj aj aj aj (.inl ⟨aI,λ_ hw=>⟨run_eq_of ?aiA,?adw⟩⟩) hF ?aoE
   case aiA=>
    intro Kq uK
    (skip)
    exact ayi
   case adw=>
    (skip)
    (co_still T)
   try walk_nrm)
  (co_applyP sS T Oj Ti (i:=5) rfl aj aj aj aj aj (.inl ⟨aI,λ_ hw=>⟨run_eq_of ?aq3,?aoL⟩⟩) hF ?as6
   case aq3=>
    intro Kq uK
    (have h1:=hw.vW)
    exact ayi
   case aoL=>
    (have h1:=hw.vW)
    (refine ui hw.rW (hw.bs.z_ hw.rW) ?_;co_evs (exact⟨_,rfl,rfl⟩))
   try walk_nrm)
  (co_applyP sS T Oj Ti (i:=6) rfl aj aj aj aj aj (.inl ⟨aI,λ_ hw=>⟨run_eq_of ?aq4,?aoM⟩⟩) hF ?as7
   case aq4=>
    intro Kq uK
    (have h1:=hw.vd)
    exact ayi
   case aoM=>
    (have h1:=hw.vd)
    (refine ui hw.rd (hw.bs.z_ hw.rd) ?_;co_evs (exact⟨_,rfl,rfl⟩))
   try walk_nrm)
  refine GL (i:=7) aj ⟨_,rfl,.inr (.inl ⟨aI,_,_,_,(λv w'=>∃N,v=.slice (some ⟨N,0,none⟩) L L/\CG Wg C k B (· =idx) w2 N (comb (FC ws cs) (List.replicate L 0)) w'),rfl,by walk_nrm;exact hq w2 c.br c.oR c.cR c.bD c.oD c.cD ws cs hlw hlc hws hcs hF.bs hF.cin,?_⟩)⟩;rintro v w' ⟨N,rfl,hg⟩;have hN:N≠C:=ax2;replace hF:=hF.ex hg.bs hg.ex;have hwp:W_ C L res idx (.slice (some ⟨N,0,none⟩) L L) w':=⟨N,rfl,hg.mn,hN,by rw[Ce];exact hg.hx⟩;clear hg;refine⟨λ_=>hF,?_⟩;walk_nrm;refine BK (i:=8) aj rfl aI (λw₁ hR K hK=>?_);replace hF:=hF.rely hR;replace hwp:=hwp.rely hR;clear hR;go_simp;refine hK _ _ ⟨?_,λ_=>hF,?_⟩
  .co_still T
  clear hK K;walk_nrm;refine BK (i:=9) aj rfl aI (λw₁ hR K hK=>?_);replace hF:=hF.rely hR;replace hwp:=hwp.rely hR;clear hR
  obtain⟨u,hu1,hu2⟩:∃u,w₁.cell? ⟨C,idx,none⟩=some u/\w₁.frozen? ⟨C,idx,none⟩=false:=by exact ay8
  go_simp
  try(unfold stored;go_simp)
  refine hK _ _ ⟨?_,λh=>absurd rfl h,?_⟩
  .refine Zt (Cl:=(· =idx)) hF.pay hF.bs.hC (i:=idx) rfl _ ?_
   co_evs (exact⟨_,rfl⟩)
  clear hK K;walk_nrm;refine Le aj ⟨rfl,rfl,.slice (some ⟨N,0,none⟩) L L,⟨N,rfl,?_,hN,?_⟩,UR hF.pay alk _⟩ _
  .exact azA
  .exact ay6
 .rintro e a' w' ⟨rfl,hd,v,hk⟩;show Goes _ _ _ _ _ 3 (G (w0.at a' []) [Zu]) w';refine aO rfl λw₁ h₁=>?_
  replace hk:=hk.rely h₁;clear h₁;rw[stepG_end];refine⟨T.idle _,?_⟩;refine aO rfl λw₁ h₁=>?_
  replace hk:=hk.rely h₁;clear h₁;rw[stepG_unwind_enter hd func50 (nm_done link) rfl];refine⟨T.idle _,?_⟩;refine dF λw₁ h₁=>?_
  replace hk:=hk.rely h₁;clear h₁;refine⟨rfl,v,hk.wp,hk.has,λW h1 h2=>?_⟩;have hA:=@doneN _ link prog Nr NoF NoF Wg C k 0 (idx+1) v;have:=hA (c:={w0.at ⟨a'.tmps,[]⟩ []with mode:=.returning}) (cs:=[Zu]) (qt:=2) rfl (al7 a'.tmps) W ⟨h1,jI⟩;exact this
end
end Go.Proofs.Y
namespace Go.Proofs.Y
open Go.Proofs.Tryz
open Go.Conc Go.RowKit Go.Gh
open Go.ConcR (Payload)
def aiF(w:ah)(N L:Nat)(bs:aY)(co bo:Nat)(ys:aA):Prop:=
 (Builtin.copy_ #[34,34] 3 #[.slice (some ⟨N,0,none⟩) L L,.slice bs L co]).run prog w=.ok (goInt L) (w.setRow N (uh ys))/\
  ∀e∈(Builtin.copy_ #[34,34] 3 #[.slice (some ⟨N,0,none⟩) L L,.slice bs L co]).events prog w #[],∃b wr,e=⟨.cell b,wr,false⟩/\(b.block=N\/(b.block=bo/\wr=false))
theorem UU(ys:aA):∀v∈(uh ys).toList,v.oneCell'=true:=by intro v hv;obtain⟨i,hi⟩:=pU.1 (Array.mem_toList_iff.1 hv);rw[yK]at hi;obtain⟨y,_,rfl⟩:=dL.1 hi;rfl
theorem al8(w:ah)(N L:Nat)(bs:aY)(co bo oo:Nat)(ys:aA)(hs:0<L->bs=some ⟨bo,oo,none⟩)(hl:ys.length=L)(hc:∀i y,ys[i]?=some y->w.cell? ⟨bo,oo+i,none⟩=some (.int .u8 ((y:Nat):Int)))
  {cur:aB} (al9:cur.size=L) (hg:w.heap[N]?=some (.cells cur 5)):aiF w N L bs co bo ys:=by
 have hu:=underlying34;obtain⟨i0,hi,_,xA,_⟩:=dm Uh;have hsz:(prog.info? 5).map (·.size)=some 1:=by rw[hi];simp[xA]
 have Zb:(uh ys).size=L:=by simp[uh,hl]
 rcases fE L with h0|h0
 .subst h0;have hn:ys=[]:=l7 hl;subst hn;have e0:cur=uh []:=by rw[Array.eq_empty_of_size_eq_zero al9];rfl
  rw[e0]at hg;refine⟨?_,?_⟩
  .rw[setRow_self w N _ _ _ hg];cases bs<;>simp[Builtin.copy_,run_underlying hu,Builtin.lenOf,Builtin.firstCells,sizeOf,typeInfo,hi,loadCells,loadCellsFrom,storeCells]
  .intro e he;cases bs<;>simp[Builtin.copy_,run_underlying hu,Builtin.lenOf,Builtin.firstCells,sizeOf,typeInfo,hi,loadCells,loadCellsFrom,storeCells,go_sem]at he
 .obtain rfl:=hs h0
  have alj:∀j v,(uh ys).toList[j]?=some v->w.cell? ((⟨bo,oo,none⟩:Addr).add j)=some v:=by intro j v hj;rw[pV,yK]at hj;obtain⟨y,hy,rfl⟩:=dL.1 hj;rw[add_plain];exact hc j y hy
  refine⟨?_,?_⟩
  .have:=run_copy_row prog w 34 34 3 5 N 0 L L ⟨bo,oo,none⟩ L co cur 5 (uh ys).toList hu hsz hg (by simp[Zb]) alj (by simp[Zb,al9]) (UU ys);have h1:List.drop L cur.toList=[]:=av1 (by simp[al9]);simpa[Zb,h1]using this
  .intro e he;have hlr:=run_loadCells_list (P:=prog) w ⟨bo,oo,none⟩ (uh ys).toList alj;have Me:(uh ys).toList.length=L:=by simp[Zb]
   rw[Me]at hlr;simp[Builtin.copy_,run_underlying hu,Builtin.lenOf,Builtin.firstCells,sizeOf,typeInfo,hi,xA,go_sem]at he;rw[show(loadCellsFrom ⟨bo,oo,none⟩ 0 L #[]).run prog w=.ok (uh ys) w from by simpa[loadCells]using hlr]at he;simp only[Result.evThen_ok]at he;rcases F_ N 5 (uh ys).toList 0 cur w _ hg (by simp[Zb,al9]) (UU ys) e he with h|⟨b,rfl,hb⟩
   .rcases H8 ⟨bo,oo,none⟩ L 0 #[] w #[] (λj hj=>⟨_,alj (0+j) ((uh ys)[j]' ag) (by simp[Zb,hj])⟩) e h with h|⟨b,rfl,hb⟩
    .simp at h
    .exact⟨b,false,rfl,.inr ⟨hb,rfl⟩⟩
   .exact⟨b,true,rfl,.inl hb⟩
section
variable [Payload][rq]{main:Bool}{Wg C n B:Nat}{Cl:Nat->Prop}
theorem al_{w:ah}{N bo:Nat}{c':aB}(hm:qZ w N)(hne:N≠C)(hb:N<w.heap.size)(hr:TD Wg C B w bo)(hbo:bo<w.heap.size){es:aH}
  (he:∀e∈es,∃b wr,e=⟨.cell b,wr,false⟩/\(b.block=N\/(b.block=bo/\wr=false))):Dg Wg C n B Cl w (w.setRow N c') es:=by
 refine⟨iW,rfl,rfl,λb _ I9 _=>um w c' (λe=>I9 (e▸hm)),λi _=>AV w c' (dU hne),λ⟨cs,h1,h2⟩=>⟨cs,(um w c' (dU hne)).trans h1,h2⟩,λe Ol=>?_⟩;obtain⟨b,wr,rfl,WR|⟨WR,rfl⟩⟩:=he e Ol
 .exact⟨b,wr,rfl,iW,.inl (by rw[WR];exact hm)⟩
 .exact⟨b,false,rfl,iW,hr.elim (λx=>.inl (by rw[WR];exact x)) λx=>.inr (.inr (.inr (by rw[WR];exact⟨x.1,x.2.1,x.2.2.1,rfl,x.2.2.2⟩)))⟩
theorem aiG(L:Nat)(hL:L<=140737488355328):∃q,∀(w:ah)(bs:aY)(bo oo co:Nat)(ys:aA),(0<L->bs=some ⟨bo,oo,none⟩)->DU ys L->Bs C B w->TD Wg C B w bo->(∀i y,ys[i]?=some y->w.cell? ⟨bo,oo+i,none⟩=some (.int .u8 ((y:Nat):Int)))->
  CallsC prog main (Ro Wg C n B Cl) (Dg Wg C n B Cl) 110 #[.slice bs L co] q w λv w'=>∃N,v=.slice (some ⟨N,0,none⟩) L L/\CG Wg C n B Cl w N ys w':=by
 obtain⟨i0,hi,yz,xA,wH⟩:=dm Uh
 have Y_:∀w:ah,(Instr.makeSlice 34 (.int .i64 (L:Int)) (.int .i64 (L:Int))).run prog w=.ok (.slice (some ⟨w.heap.size,0,none⟩) L L) (w.alloc (.cells (madeCells #[.int .u8 0] L) 5)):=λw=>by exact azG
 have hme:∀(w:ah)(es:aH),(Instr.makeSlice 34 (.int .i64 (L:Int)) (.int .i64 (L:Int))).events prog w es=es:=λw es=>
  events_make (P:=prog) w 34 5 i0 (.int .u8 0) underlying34 hi yz .i64 .i64 (L:Int) (L:Int) ag ag ik ag awt es
 clear hi yz xA wH;co_apply Exists.intro;intro w bs bo oo co ys hbs hl hb hr hcs;co_apply callsC_of_wpC func110 aI rfl;simp only[ntmps110,fU,dJ,dY,Nat.reduceAdd,Nat.reduceSub,dR,dQ,dM,dP,dA,bT];have hF:CF Wg C n B Cl w w:=⟨hb,.refl w⟩;co_apply bY qj;co_reg qj;co_op CF.rely hF (co_quiet qj);co_apply bV qj;co_then;co_apply bY qj;co_reg qj;co_op CF.rely hF (co_quiet qj);co_op CF.rely hF (co_quiet qj)
 co_opw CF.rely hF (skip) (rw[listed_nil kZ];exact zC hF.bs.hC _ rfl)
 replace hF:=hF.alloc L;generalize hN:Array.size (World.heap _)=N at hF⊢;clear hN;co_op CG.rely hF (co_quiet qj);co_apply bV qj;co_then;co_apply bY qj;co_reg qj;co_op CG.rely hF (co_quiet qj);co_op CG.rely hF (co_quiet qj);have hN1:=hF.lo;have Ui:=hb.hC;co_apply opsC_cons_k rfl aI;intro w1 hR K hK;replace hF:=hF.rely hR;clear hR;have hcp:aiF w1 N L bs co bo ys:=al8 w1 N L bs co bo oo ys hbs hl (λi y hy=>by rw[<-hcs i y hy];simp only[World.cell?,hF.ex.stands hr id]) (by simp[uh]) hF.hx;obtain⟨hc1,Wq⟩:=hcp;go_simp;refine hK _ _ ⟨?_,?_⟩
 .refine al_ hF.mn ag (hF.bs.lt hF.mn) (hF.ex.rdb hr) (hF.bs.z_ (hF.ex.rdb hr)) ?_;intro e he;have hm:=mem_listed he;simp[go_sem]at hm;exact Wq e hm
 clear hK K hc1 Wq;replace hF:CG Wg C n B Cl w N ys (w1.setRow N (uh ys)):=⟨hF.bs.row _ _,adk hF.ex hb hN1 _,hN1,sQ (w:=w1) (w':=w1.setRow N (uh ys)) rfl iW hF.mn,OI _ hF.hx⟩
 try walk_nrm
 co_apply bV qj;co_then;co_apply bY qj;co_reg qj;co_op CG.rely hF (co_quiet qj);co_op CG.rely hF (co_quiet qj);co_apply bV qj;co_then;co_apply wpC_ret qj;exact ayr
end
end Go.Proofs.Y
namespace Go.Proofs.Y
open Go.Proofs.Tryz
open Go.Conc Go.ConcN Go.RowKit Go.Gh
open Go.ConcR (Payload)
def Lo[rq](Wg C B b:Nat):Prop:=b<B/\b≠Wg/\b≠C/\¬rq.old b
structure Env where
 ba:Nat
 bv:Nat
 bW:Nat
 oW:Nat
 cW:Nat
 bd:Nat
 bD:Nat
 oD:Nat
 cD:Nat
 bp:Nat
 op:Nat
 cp:Nat
 br:Nat->Nat
 oR:Nat->Nat
 cR:Nat->Nat
 ws:Nat->aA
 px:Nat->Nat
 cs:List UK
 h0:Nat->aV
def Env.D8(E:Env)(k t:Nat):Prop:=t<k/\E.px t≠t
def Env.cap(E:Env)(bj idx:Nat):Cap:={ba:=E.ba,bj:=bj,bv:=E.bv,bW:=E.bW,oW:=E.oW,cW:=E.cW,br:=E.br idx,oR:=E.oR idx,cR:=E.cR idx,bd:=E.bd,bD:=E.bD,oD:=E.oD,cD:=E.cD}
def Env.res(E:Env)(L t:Nat):aA:=comb (FC (E.ws t) E.cs) (List.replicate L 0)
structure RQ(E:Env)(k L:Nat):Prop where
 k0:0<k
 k1:k<=128
 hL:L<=140737488355328
 len:E.cs.length=k
 wl:∀t,t<k->DU (E.ws t) k/\∀x∈E.ws t,x<256
 cl:∀c∈E.cs,DU c.ys L/\∀y∈c.ys,y<256
 pb:∀t,t<k->E.px t<128
structure ama[rq](Wg C B k L:Nat)(E:Env)(w:ah):Prop where
 la:Lo Wg C B E.ba
 lv:Lo Wg C B E.bv
 lW:Lo Wg C B E.bW
 ld:Lo Wg C B E.bd
 lD:Lo Wg C B E.bD
 lp:Lo Wg C B E.bp
 lr:∀t,t<k->Lo Wg C B (E.br t)
 va:w.cell? ⟨E.ba,0,none⟩=some (.slice (some ⟨C,0,none⟩) k k)
 vv:w.cell? ⟨E.bv,0,none⟩=some (.slice (some ⟨E.bW,E.oW,none⟩) k E.cW)
 vd:w.cell? ⟨E.bd,0,none⟩=some (.slice (some ⟨E.bD,E.oD,none⟩) k E.cD)
 vW:∀t,t<k->w.cell? ⟨E.bW,E.oW+t,none⟩=some (.slice (some ⟨E.br t,E.oR t,none⟩) k (E.cR t))
 hw:∀t,t<k->∀j x,(E.ws t)[j]?=some x->w.cell? ⟨E.br t,E.oR t+j,none⟩=some (.int .u8 ((x:Nat):Int))
 hc:∀j c,E.cs[j]?=some c->w.cell? ⟨E.bD,E.oD+j,none⟩=some (.slice c.bs L c.co)
 hp0:∀t,t<k->w.cell? ⟨E.bp,E.op+t*2,none⟩=some (.int .i64 ((E.px t:Nat):Int))
 EE:∀t c,E.cs[t]?=some c->w.cell? ⟨E.bp,E.op+t*2+1,none⟩=some (.slice c.bs L c.co)
 xR:∀c∈E.cs,Lo Wg C B c.bo/\(0<L->c.bs=some ⟨c.bo,c.oo,none⟩)/\∀i y,c.ys[i]?=some y->w.cell? ⟨c.bo,c.oo+i,none⟩=some (.int .u8 ((y:Nat):Int))
 UT:∀b,b<B->b≠Wg->b≠C->w.heap[b]?=E.h0 b
theorem ama.Bz[rq]{Wg C B k L:Nat}{E:Env}{w w₁:ah}(h:ama Wg C B k L E w)(st:∀b,b<B->b≠Wg->b≠C->w₁.heap[b]?=w.heap[b]?):ama Wg C B k L E w₁:=by
 have st0:=st;have st:∀{b:Nat},Lo Wg C B b->∀o,w₁.cell? ⟨b,o,none⟩=w.cell? ⟨b,o,none⟩:=λhb o=>by simp only[World.cell?,st _ hb.1 hb.2.1 hb.2.2.1]
 exact⟨h.la,h.lv,h.lW,h.ld,h.lD,h.lp,h.lr,(st h.la _).trans h.va,(st h.lv _).trans h.vv,(st h.ld _).trans h.vd,λt ht=>(st h.lW _).trans (h.vW t ht),λt ht j x e=>(st (h.lr t ht) _).trans (h.hw t ht j x e),
  λj c e=>(st h.lD _).trans (h.hc j c e),λt ht=>(st h.lp _).trans (h.hp0 t ht),λt c e=>(st h.lp _).trans (h.EE t c e),λc hc=>let⟨h1,h2,h3⟩:=h.xR c hc;⟨h1,h2,λi y e=>(st h1 _).trans (h3 i y e)⟩,λb h1 h2 h3=>(st0 b h1 h2 h3).trans (h.UT b h1 h2 h3)⟩
section
variable [Payload][rq]{main:Bool}{Wg C k B L:Nat}{E:Env}
structure SF(Wg C k B L:Nat)(E:Env)(s0 j:Nat)(w:ah):Prop where
 bs:Bs C B w
 pay:PayAt C k w
 low:ama Wg C B k L E w
 sb:C<s0/\B<=s0/\s0<=w.heap.size
 dn:∀t c,t<j->¬E.D8 k t->E.cs[t]?=some c->∃N,N<s0/\qZ w N/\(N≠C/\B<=N)/\Has C t (.slice (some ⟨N,0,none⟩) L L) w/\w.heap[N]?=some (.cells (uh c.ys) 5)
theorem SF.ex{s0 j:Nat}{w w₁:ah}{S:Nat->Prop}(h:SF Wg C k B L E s0 j w)(hb:Bs C B w₁)(r:Ex Wg C k B (λi=>¬E.D8 k i) S w w₁)(hS:∀b,S b->s0<=b):SF Wg C k B L E s0 j w₁:=by refine⟨hb,r.pay h.pay,h.low.Bz r.low,⟨h.sb.1,h.sb.2.1,bu h.sb.2.2 r.size⟩,λt c ht hm hc=>?_⟩;obtain⟨N,h1,h2,h3,h4,h5⟩:=h.dn t c ht hm hc;exact⟨N,h1,r.own N h2,h3,(r.cell t hm).trans h4,(r.mine N h2 (λhs=>by have:=hS N hs;omega)).trans h5⟩
theorem SF.rely{s0 j:Nat}{w w₁:ah}(h:SF Wg C k B L E s0 j w)(r:Ro Wg C k B (λi=>¬E.D8 k i) w w₁):SF Wg C k B L E s0 j w₁:=by refine⟨h.bs.rely r,r.pay h.pay,h.low.Bz r.low,⟨h.sb.1,h.sb.2.1,bu h.sb.2.2 r.size⟩,λt c ht hm hc=>?_⟩;obtain⟨N,h1,h2,h3,h4,h5⟩:=h.dn t c ht hm hc;exact⟨N,h1,(r.yL N).2 h2,h3,(r.cell t hm).trans h4,(r.mine N h2).trans h5⟩
theorem SF.base{s0 j:Nat}{w:ah}(h:SF Wg C k B L E s0 j w):SF Wg C k B L E w.heap.size j w:=by refine⟨h.bs,h.pay,h.low,⟨h.bs.hC,h.bs.hB,az _⟩,λt c ht hm hc=>?_⟩;obtain⟨N,h1,h2,h3⟩:=h.dn t c ht hm hc;exact⟨N,h.bs.lt h2,h2,h3⟩
structure SG(Wg C k B L:Nat)(E:Env)(s0 j bj bc:Nat)(vj v0 v1:ai)(w:ah):Prop where
 sf:SF Wg C k B L E s0 j w
 lj:s0<=bj
 lc:s0<=bc
 ne:bj≠bc
 mj:qZ w bj
 mc:qZ w bc
 hj:w.heap[bj]?=some (.cells #[vj] 3)
 hc:w.heap[bc]?=some (.cells #[v0,v1] 143)
theorem SG.rely{s0 j bj bc:Nat}{vj v0 v1:ai}{w w₁:ah}(h:SG Wg C k B L E s0 j bj bc vj v0 v1 w)(r:Ro Wg C k B (λi=>¬E.D8 k i) w w₁):SG Wg C k B L E s0 j bj bc vj v0 v1 w₁:=
 ⟨h.sf.rely r,h.lj,h.lc,h.ne,(r.yL _).2 h.mj,(r.yL _).2 h.mc,(r.mine _ h.mj).trans h.hj,(r.mine _ h.mc).trans h.hc⟩
structure SJ(Wg C k B L:Nat)(E:Env)(s0 j bj:Nat)(vj:ai)(w:ah):Prop where
 sf:SF Wg C k B L E s0 j w
 lj:s0<=bj
 mj:qZ w bj
 hj:w.heap[bj]?=some (.cells #[vj] 3)
theorem SJ.rely{s0 j bj:Nat}{vj:ai}{w w₁:ah}(h:SJ Wg C k B L E s0 j bj vj w)(r:Ro Wg C k B (λi=>¬E.D8 k i) w w₁):SJ Wg C k B L E s0 j bj vj w₁:=
 ⟨h.sf.rely r,h.lj,(r.yL _).2 h.mj,(r.mine _ h.mj).trans h.hj⟩
theorem SF.alloc{s0 j:Nat}{w:ah}(h:SF Wg C k B L E s0 j w)(o:Obj):SF Wg C k B L E s0 j (w.alloc o):=
 h.ex (S:=λ_=>False) (h.bs.alloc o) (Ex.alloc h.bs.hC h.bs.hB (λ_ hb=>h.bs.lt hb) o) (λ_=>False.elim)
theorem SF.aeQ{s0 j:Nat}{w:ah}(h:SF Wg C k B L E s0 j w)(v:ai):SJ Wg C k B L E s0 j w.heap.size v (w.alloc (.cells #[v] 3)):=
 ⟨h.alloc _,h.sb.2.2,zY (w:=w) (w':=w.alloc _) rfl h.bs.tg (az _) iL,by rw[EI]⟩
theorem SJ.aqr{s0 j bj:Nat}{vj:ai}{w:ah}(h:SJ Wg C k B L E s0 j bj vj w)(v0 v1:ai):SG Wg C k B L E s0 j bj w.heap.size vj v0 v1 (w.alloc (.cells #[v0,v1] 143)):=
 ⟨h.sf.alloc _,h.lj,h.sf.sb.2.2,Nat.ne_of_lt (h.sf.bs.lt h.mj),sQ (w:=w) (w':=w.alloc _) rfl iL h.mj,zY (w:=w) (w':=w.alloc _) rfl h.sf.bs.tg (az _) iL,
  (dI _ _ _ (h.sf.bs.lt h.mj)).trans h.hj,by rw[EI]⟩
theorem SF.set{s0 j b o:Nat}{w:ah}(h:SF Wg C k B L E s0 j w)(hb:s0<=b)(v:ai):SF Wg C k B L E s0 j (w.setCell ⟨b,o,none⟩ v):=
 h.ex (S:=λx=>s0<=x) (h.bs.set _ _) (Ex.set (by have:=h.sb.1;show b≠C;omega) hb (by have:=h.sb.2.1;show¬(b<B/\_);omega)) (λ_ hx=>hx)
theorem SG.aoF{s0 j bj bc:Nat}{vj v0 v1:ai}{w:ah}(h:SG Wg C k B L E s0 j bj bc vj v0 v1 w)(v:ai):SG Wg C k B L E s0 j bj bc v v0 v1 (w.setCell ⟨bj,0,none⟩ v):=
 ⟨h.sf.set h.lj v,h.lj,h.lc,h.ne,sQ (w:=w) (w':=w.setCell _ _) rfl eY h.mj,sQ (w:=w) (w':=w.setCell _ _) rfl eY h.mc,heap_set w h.hj 0 v,(dD _ _ _ _ (dU h.ne)).trans h.hc⟩
theorem SG.as8{s0 j bj bc:Nat}{vj v0 v1:ai}{w:ah}(h:SG Wg C k B L E s0 j bj bc vj v0 v1 w)(u0 u1:ai):SG Wg C k B L E s0 j bj bc vj u0 u1 ((w.setCell ⟨bc,0,none⟩ u0).setCell ⟨bc,1,none⟩ u1):=
 ⟨(h.sf.set h.lc u0).set h.lc u1,h.lj,h.lc,h.ne,sQ (w:=w) (w':=(w.setCell ⟨bc,0,none⟩ u0).setCell ⟨bc,1,none⟩ u1) rfl avs h.mj,sQ (w:=w) (w':=(w.setCell ⟨bc,0,none⟩ u0).setCell ⟨bc,1,none⟩ u1) rfl avs h.mc,
   (dD _ _ _ _ h.ne).trans ((dD _ _ _ _ h.ne).trans h.hj),heap_set _ (heap_set w h.hc 0 u0) 1 u1⟩
theorem SG.jC{s0 j bj bc:Nat}{vj v0 v1:ai}{w:ah}(h:SG Wg C k B L E s0 j bj bc vj v0 v1 w):bj≠C:=ax5
theorem SG.cC{s0 j bj bc:Nat}{vj v0 v1:ai}{w:ah}(h:SG Wg C k B L E s0 j bj bc vj v0 v1 w):bc≠C:=by have:=h.lc;have:=h.sf.sb.1;omega
theorem SG.cj{s0 j bj bc:Nat}{vj v0 v1:ai}{w:ah}(h:SG Wg C k B L E s0 j bj bc vj v0 v1 w):w.cell? ⟨bj,0,none⟩=some vj/\w.frozen? ⟨bj,0,none⟩=false:=⟨by rw[cell_of w h.hj];rfl,wK w h.hj 0⟩
theorem SG.cc{s0 j bj bc:Nat}{vj v0 v1:ai}{w:ah}(h:SG Wg C k B L E s0 j bj bc vj v0 v1 w):(w.cell? ⟨bc,0,none⟩=some v0/\w.cell? ⟨bc,1,none⟩=some v1)/\w.frozen? ⟨bc,0,none⟩=false/\w.frozen? ⟨bc,1,none⟩=false:=
 ⟨⟨by rw[cell_of w h.hc];rfl,by rw[cell_of w h.hc];rfl⟩,wK w h.hc 0,wK w h.hc 1⟩
theorem amb{n:Nat}{Cl:Nat->Prop}{w:ah}{b:Nat}{u0 u1:ai}(hm:qZ w b)(hne:b≠C)(hb:b<w.heap.size){es:aH}(he:∀e∈es,∃a wr,e=⟨.cell a,wr,false⟩/\a.block=b):Dg Wg C n B Cl w ((w.setCell ⟨b,0,none⟩ u0).setCell ⟨b,1,none⟩ u1) es:=by
 have hx:∀x,x≠b->((w.setCell ⟨b,0,none⟩ u0).setCell ⟨b,1,none⟩ u1).heap[x]?=w.heap[x]?:=λx hx=>(dD _ _ _ _ hx).trans (dD _ _ _ _ hx)
 refine⟨avs,rfl,rfl,λx _ hx' _=>hx x (λe=>hx' (e▸hm)),λi _=>by simp only[World.cell?,hx C (dU hne)],λ⟨cs,h1,h2⟩=>⟨cs,(hx C (dU hne)).trans h1,h2⟩,λe Ol=>?_⟩;obtain⟨a,wr,rfl,ha⟩:=he e Ol;exact⟨a,wr,rfl,avs,.inl (by rw[ha];exact hm)⟩
theorem SG.ex{s0 j bj bc:Nat}{vj v0 v1:ai}{w w₁:ah}(h:SG Wg C k B L E s0 j bj bc vj v0 v1 w)(hb:Bs C B w₁)(r:Ex Wg C k B (λi=>¬E.D8 k i) (λ_=>False) w w₁):SG Wg C k B L E s0 j bj bc vj v0 v1 w₁:=
 ⟨h.sf.ex hb r (λ_=>False.elim),h.lj,h.lc,h.ne,r.own _ h.mj,r.own _ h.mc,(r.mine _ h.mj id).trans h.hj,(r.mine _ h.mc id).trans h.hc⟩
theorem SF.cell{s0 j N:Nat}{w:ah}{c:UK}(h:SF Wg C k B L E s0 j w)(hj:j<k)(hcj:E.cs[j]?=some c)(hm:qZ w N)(hN:N≠C/\B<=N)(hh:w.heap[N]?=some (.cells (uh c.ys) 5)):
  SF Wg C k B L E w.heap.size (j+1) (w.setCell ⟨C,j,none⟩ (.slice (some ⟨N,0,none⟩) L L)):=by
 obtain⟨arr,EE,CE⟩:=h.pay;have hx:∀x,x≠C->(w.setCell ⟨C,j,none⟩ (.slice (some ⟨N,0,none⟩) L L)).heap[x]?=w.heap[x]?:=λx hx=>dD _ _ _ _ hx
 have hg:∀b,qZ w b->qZ (w.setCell ⟨C,j,none⟩ (.slice (some ⟨N,0,none⟩) L L)) b:=λb hb=>sQ (w:=w) (w':=w.setCell _ _) rfl eY hb
 refine⟨h.bs.set _ _,⟨_,heap_set w EE _ _,by simpa using CE⟩,h.low.Bz (λb _ _ hb=>hx b hb),⟨h.bs.hC,h.bs.hB,eY⟩,λt d ht hmt hd=>?_⟩;by_cases htj:t=j
 .subst htj;rw[hcj]at hd;cases hd;exact⟨N,h.bs.lt hm,hg N hm,hN,UR ⟨arr,EE,CE⟩ hj _,(hx N hN.1).trans hh⟩
 .obtain⟨N',h1,h2,h3,h4,h5⟩:=h.dn t d ag hmt hd;refine⟨N',h.bs.lt h2,hg N' h2,h3,?_,(hx N' h3.1).trans h5⟩;simp only[Has,World.cell?,EE]at h4;simp only[Has,World.cell?,heap_set w EE];rw[jZ (λe:j=t=>htj e.symm)];exact h4
theorem SF.book{s0 j:Nat}{w:ah}(h:SF Wg C k B L E s0 j w)(hj:E.D8 k j){l:aA}(hl:∀b∈l,b<w.heap.size)(hk:∀b,qZ w b->b<s0->b∈l):SF Wg C k B L E s0 (j+1) (w.out (book w.heap.size l)):=by
 refine⟨⟨avr,h.bs.hC,h.bs.hB,λb hb=>by rw[vP]at hb;exact hl b hb⟩,h.pay,h.low.Bz (λ_ _ _ _=>rfl),h.sb,λt c ht hm hc=>?_⟩;by_cases htj:t=j
 .exact absurd (htj▸hj) hm
 .obtain⟨N,h1,h2,h3,h4,h5⟩:=h.dn t c ag hm hc;exact⟨N,h1,.inl (by rw[vP];exact hk N h2 h1),h3,h4,h5⟩
end
end Go.Proofs.Y
namespace Go.Proofs.Y
open Go.Proofs.Tryz
open Go.Conc Go.ConcN Go.RowKit Go.Gh Go.Conc.Lib Go.ConcR.Gen Go.ConcN.Gen
open Go.ConcR (Payload)
def TS(E:Env)(Wg k j:Nat)(T:aB):Prop:=
 ∃v0 v1 v2 v3 v4 v5 v6 v8 v9 Wx XR Qa Oh Ud Qk Ql v20 v21 v22 Ux v24 Qm v26 v27 v28 v29 v30 v31 v32 v33 v34 v35 v36 v37 v38 v39 v40 v41 v42 v43 v44 v45 v46 v50 v51 v52 v53 v54 v55 v56 v57 v58 v59 v60 v61 v62 v63 v64 v65 v66 v67 v68:ai,T=#[v0,v1,v2,v3,v4,v5,v6,.pointer (some ⟨E.bd,0,none⟩),v8,v9,.pointer (some ⟨E.bv,0,none⟩),.pointer (some ⟨E.ba,0,none⟩),.pointer (some ⟨Wg,0,none⟩),Wx,XR,Qa,Oh,Ud,Qk,Ql,v20,v21,v22,Ux,v24,Qm,v26,v27,v28,v29,v30,v31,v32,v33,v34,v35,v36,v37,v38,v39,v40,v41,v42,v43,v44,v45,v46,.slice (some ⟨E.bp,E.op,none⟩) k E.cp,.int .i64 ((k:Nat):Int),.int .i64 ((j:Nat):Int),v50,v51,v52,v53,v54,v55,v56,v57,v58,v59,v60,v61,v62,v63,v64,v65,v66,v67,v68]
def TS2(E:Env)(Wg k j bj bc:Nat)(T:aB):Prop:=
 ∃v0 v1 v2 v3 v4 v5 v6 v8 v9 Qa Oh Ud Qk Ql v20 v21 v22 Ux v24 Qm v26 v27 v28 v29 v30 v31 v32 v33 v34 v35 v36 v37 v38 v39 v40 v41 v42 v43 v44 v45 v46 v50 v51 v52 v53 v54 v55 v56 v58 v59 v60 v61 v62 v63 v64 v65 v66 v67 v68:ai,T=#[v0,v1,v2,v3,v4,v5,v6,.pointer (some ⟨E.bd,0,none⟩),v8,v9,.pointer (some ⟨E.bv,0,none⟩),.pointer (some ⟨E.ba,0,none⟩),.pointer (some ⟨Wg,0,none⟩),.pointer (some ⟨bj,0,none⟩),.pointer (some ⟨bc,0,none⟩),Qa,Oh,Ud,Qk,Ql,v20,v21,v22,Ux,v24,Qm,v26,v27,v28,v29,v30,v31,v32,v33,v34,v35,v36,v37,v38,v39,v40,v41,v42,v43,v44,v45,v46,.slice (some ⟨E.bp,E.op,none⟩) k E.cp,.int .i64 ((k:Nat):Int),.int .i64 ((j:Nat):Int),v50,v51,v52,v53,v54,v55,v56,.bool (decide (((E.px j:Nat):Int)=((j:Nat):Int))),v58,v59,v60,v61,v62,v63,v64,v65,v66,v67,v68]
def EK:Code->Code| .seq x _=>x|c=>c
def yM:Code->Code| .seq _ y=>y|c=>c
def cIn:Code->Code| .block _ c=>c| .loop c=>c|c=>c
def GN:Code->Array Oper| .region _ o _=>o|_=>#[]
def anT:Code->Code| .cond _ x _=>x|c=>c
noncomputable def zF:Code:=yM (yM (yM (yM (yM (yM (yM (yM (Tryz.f67.body.getD .skip))))))))
noncomputable def vJ:Code:=cIn (cIn (yM (EK zF)))
noncomputable def TE:Code:=cIn (EK (yM (yM vJ)))
noncomputable def q13:{x:Array Oper//x=GN (EK (EK zF))}:=⟨_,by(simp only[zF,EK,yM,GN,Tryz.f67,aQ];rfl)⟩
noncomputable def o13:Array Oper:=q13.1
noncomputable def q14:{x:Array Oper//x=GN (EK vJ)}:=⟨_,by(simp only[vJ,zF,EK,yM,cIn,GN,Tryz.f67,aQ];rfl)⟩
noncomputable def o14:Array Oper:=q14.1
noncomputable def q15:{x:Array Oper//x=GN (EK TE)}:=⟨_,by(simp only[TE,vJ,zF,EK,yM,cIn,GN,Tryz.f67,aQ];rfl)⟩
noncomputable def o15:Array Oper:=q15.1
noncomputable def q16:{x:Array Oper//x=GN (EK (EK (yM TE)))}:=⟨_,by(simp only[TE,vJ,zF,EK,yM,cIn,GN,Tryz.f67,aQ];rfl)⟩
noncomputable def o16:Array Oper:=q16.1
noncomputable def q17:{x:Array Oper//x=GN (EK (anT (yM (EK (yM TE)))))}:=⟨_,by(simp only[TE,vJ,zF,EK,yM,cIn,GN,anT,Tryz.f67,aQ];rfl)⟩
noncomputable def o17:Array Oper:=q17.1
noncomputable def q18:{x:Array Oper//x=GN (EK (yM (yM TE)))}:=⟨_,by(simp only[TE,vJ,zF,EK,yM,cIn,GN,Tryz.f67,aQ];rfl)⟩
noncomputable def o18:Array Oper:=q18.1
noncomputable def q19:{x:Array Oper//x=GN (yM (yM (yM TE)))}:=⟨_,by(simp only[TE,vJ,zF,EK,yM,cIn,GN,Tryz.f67,aQ];rfl)⟩
noncomputable def o19:Array Oper:=q19.1
noncomputable def q20:{x:Array Oper//x=GN (yM (yM (yM vJ)))}:=⟨_,by(simp only[vJ,zF,EK,yM,cIn,GN,Tryz.f67,aQ];rfl)⟩
noncomputable def o20:Array Oper:=q20.1
noncomputable def q21:{x:Array Oper//x=GN (EK (yM zF))}:=⟨_,by(simp only[zF,EK,yM,GN,Tryz.f67,aQ];rfl)⟩
noncomputable def o21:Array Oper:=q21.1
noncomputable def q22:{x:Array Oper//x=GN (EK (yM (yM zF)))}:=⟨_,by(simp only[zF,EK,yM,GN,Tryz.f67,aQ];rfl)⟩
noncomputable def o22:Array Oper:=q22.1
noncomputable def afc:Code:=.seq (.region 22 o22 false) .ret
noncomputable def Jy:Code:=.seq (.region 21 o21 false) afc
noncomputable def agm:Code:=.cond (.tmp 57) (.seq (.region 17 o17 true) (.exit 3)) .skip
noncomputable def rGo:Code:=.seq (.region 18 o18 false) (.region 19 o19 false)
theorem aiH:zF=.seq (.seq (.region 13 o13 false) (.block 2 (.loop vJ))) Jy:=aj
theorem aa9:vJ=.seq (.region 14 o14 false) (.seq (.cond (.tmp 50) .skip (.exit 2)) (.seq (.block 3 TE) (.region 20 o20 false))):=aj
theorem amc:TE=.seq (.region 15 o15 false) (.seq (.seq (.region 16 o16 false) agm) rGo):=aj
theorem n14:o14.size=1:=aj
theorem n15:o15.size=7:=aj
theorem n16:o16.size=4:=aj
theorem n18:o18.size=1:=aj
theorem n19:o19.size=2:=aj
theorem n20:o20.size=2:=aj
theorem n21:o21.size=1:=aj
section
variable [Payload][rq]{main:Bool}{Wg C k B L:Nat}{E:Env}
def KR(Wg C k B L:Nat)(E:Env)(cs:aP)(ids:aA)(g:aG)(w:ah):Prop:=
 ∃T s0 j ops,g=G ((base 67).at ⟨T,[]⟩ (.inRegion ops []::[.code afc])) cs/\TS E Wg k j T/\SF Wg C k B L E s0 k w/\∀x,x∈ids↔E.D8 k x
theorem KR.rely{cs:aP}{ids:aA}{g:aG}{w w₁:ah}(h:KR Wg C k B L E cs ids g w)(r:Ro Wg C k B (λi=>¬E.D8 k i) w w₁):KR Wg C k B L E cs ids g w₁:=by exact azo
def StS(Wg C k B L:Nat)(E:Env)(cs:aP):Nat->aA->aG->ah->Prop
 |0,ids=>al5 prog link.tWg Wg (KR Wg C k B L E cs) ids
 |r+1,ids=>afa prog link.tWg Wg C k B (E.D8 k) (W_ C L (E.res L)) (Sp prog link.tWg Wg C k B (E.D8 k) (W_ C L (E.res L)) (KR Wg C k B L E cs) r) ids
theorem aiI{cs:aP}(r:Nat)(ids:aA)(g:aG)(w:ah):Sp prog link.tWg Wg C k B (E.D8 k) (W_ C L (E.res L)) (KR Wg C k B L E cs) r ids g w↔∃m,Goes prog true (Ro Wg C k B (λi=>¬E.D8 k i)) (Dg Wg C k B (λi=>¬E.D8 k i)) (StS Wg C k B L E cs r ids) m g w:=by cases r<;>exact Iff.rfl
theorem aoN{cs:aP}:∃m,∀(T:aB)(w:ah)(ids:aA)(s0:Nat),TS E Wg k k T->SF Wg C k B L E s0 k w->(∀x,x∈ids↔E.D8 k x)->
  Goes prog true (Ro Wg C k B (λi=>¬E.D8 k i)) (Dg Wg C k B (λi=>¬E.D8 k i)) (StS Wg C k B L E cs 0 ids) m (G ((base 67).at ⟨T,[]⟩ (.code vJ::.inLoop vJ::.inBlock 2::[.code Jy])) cs) w:=by
 co_apply Exists.intro;rintro T w ids s0 ⟨v0,v1,v2,v3,v4,v5,v6,v8,v9,Wx,XR,Qa,Oh,Ud,Qk,Ql,v20,v21,v22,Ux,v24,Qm,v26,v27,v28,v29,v30,v31,v32,v33,v34,v35,v36,v37,v38,v39,v40,v41,v42,v43,v44,v45,v46,v50,v51,v52,v53,v54,v55,v56,v57,v58,v59,v60,v61,v62,v63,v64,v65,v66,v67,v68,rfl⟩ hF BL;have Hg:¬((k:Int)<(k:Int)):=ag;generalize hkk:Item.inLoop vJ::[Item.inBlock 2,Item.code Jy]=kk;rw[aa9]
 (co_apply aO rfl;intro _ qL;replace hF:=SF.rely hF qL;clear qL;rw[aW];simp only[bF];refine⟨aZ qj _,?_⟩)
 (co_apply aO rfl;intro _ qL;replace hF:=SF.rely hF qL;clear qL;rw[dS,n14];simp only[bF,List.range,List.range.loop];refine⟨aZ qj _,?_⟩;simp only[o14,q14])
 (co_apply aO rfl;intro _ qL;replace hF:=SF.rely hF qL;clear qL
  refine goes_oper_k rfl rfl aC (λKq uK=>?_)
  (skip)
  go_simp
  try(unfold stored;go_simp)
  refine uK _ _ ⟨?_,?_⟩
  ·(co_quiet qj)
  clear uK Kq
  try walk_nrm)
 (co_apply aO rfl;intro _ qL;replace hF:=SF.rely hF qL;clear qL;rw[bf];simp only[bF];refine⟨aZ qj _,?_⟩)
 (co_apply aO rfl;intro _ qL;replace hF:=SF.rely hF qL;clear qL;rw[aW];simp only[bF];refine⟨aZ qj _,?_⟩)
 (co_apply aO rfl;intro _ qL;replace hF:=SF.rely hF qL;clear qL)
 rw[lF (t:=false) rfl];simp only[bF,dC,bQ];refine⟨aZ qj _,?_⟩
 (co_apply aO rfl;intro _ qL;replace hF:=SF.rely hF qL;clear qL)
 subst hkk;refine goes_exit rfl ?_;refine⟨aZ qj _,?_⟩;unfold Jy
 (co_apply aO rfl;intro _ qL;replace hF:=SF.rely hF qL;clear qL;rw[aW];simp only[bF];refine⟨aZ qj _,?_⟩)
 (co_apply aO rfl;intro _ qL;replace hF:=SF.rely hF qL;clear qL;rw[dS,n21];simp only[bF,List.range,List.range.loop];refine⟨aZ qj _,?_⟩;simp only[o21,q21])
 (co_apply aO rfl;intro _ qL;replace hF:=SF.rely hF qL;clear qL)
 refine goes_call rfl rfl aC rfl Nr.f_wait (nm_wait link) rfl ⟨aZ qj _,?_⟩
 walk_nrmf waitFn
 refine dF (n:=0) λw₁ hR=>?_
 replace hF:=hF.rely hR;clear hR;refine⟨rfl,_,aiD Nr,_,s0,k,_,rfl,?_,hF,BL⟩;walk_nrm;exact⟨_,_,_,_,_,_,_,_,_,_,_,_,_,_,_,_,_,_,_,_,_,_,_,_,_,_,_,_,_,_,_,_,_,_,_,_,_,_,_,_,_,_,_,_,_,_,_,_,_,_,_,_,_,_,_,_,_,_,_,_,_,_,rfl⟩
theorem aiJ(hE:RQ E k L){cs:aP}{j:Nat}(hj:j<k){c:UK}(hcj:E.cs[j]?=some c)(m:Nat):∃n,∀(T:aB)(w:ah)(s0:Nat)(Stop:aG->ah->Prop),TS E Wg k j T->SF Wg C k B L E s0 j w->
  (∀T' w' s1 bj bc,TS2 E Wg k j bj bc T'->SG Wg C k B L E s1 j bj bc (.int .i64 ((j:Nat):Int)) (.int .i64 ((E.px j:Nat):Int)) (.slice c.bs L c.co) w'->
   Goes prog true (Ro Wg C k B (λi=>¬E.D8 k i)) (Dg Wg C k B (λi=>¬E.D8 k i)) Stop m (G ((base 67).at ⟨T',[]⟩ (.code agm::.code rGo::.inBlock 3::.code (.region 20 o20 false)::.inLoop vJ::.inBlock 2::[.code Jy])) cs) w')->
  Goes prog true (Ro Wg C k B (λi=>¬E.D8 k i)) (Dg Wg C k B (λi=>¬E.D8 k i)) Stop n (G ((base 67).at ⟨T,[]⟩ (.code vJ::.inLoop vJ::.inBlock 2::[.code Jy])) cs) w:=by
 co_apply Exists.intro;rintro T w s0 Stop ⟨v0,v1,v2,v3,v4,v5,v6,v8,v9,Wx,XR,Qa,Oh,Ud,Qk,Ql,v20,v21,v22,Ux,v24,Qm,v26,v27,v28,v29,v30,v31,v32,v33,v34,v35,v36,v37,v38,v39,v40,v41,v42,v43,v44,v45,v46,v50,v51,v52,v53,v54,v55,v56,v57,v58,v59,v60,v61,v62,v63,v64,v65,v66,v67,v68,rfl⟩ hF acY;replace hF:=hF.base;generalize yE:w.heap.size=s1 at hF;clear yE s0;have hjI:(j:Int)<(k:Int):=ag;have KP:=hE.k1;have hpx:=hE.pb j hj;generalize Item.inLoop vJ::[Item.inBlock 2,Item.code Jy]=kk at acY⊢;rw[aa9]
 (co_apply aO rfl;intro _ qL;replace hF:=SF.rely hF qL;clear qL;rw[aW];simp only[bF];refine⟨aZ qj _,?_⟩)
 (co_apply aO rfl;intro _ qL;replace hF:=SF.rely hF qL;clear qL;rw[dS,n14];simp only[bF,List.range,List.range.loop];refine⟨aZ qj _,?_⟩;simp only[o14,q14])
 (co_apply aO rfl;intro _ qL;replace hF:=SF.rely hF qL;clear qL
  refine goes_oper_k rfl rfl aC (λKq uK=>?_)
  (skip)
  go_simp
  try(unfold stored;go_simp)
  refine uK _ _ ⟨?_,?_⟩
  ·(co_quiet qj)
  clear uK Kq
  try walk_nrm)
 (co_apply aO rfl;intro _ qL;replace hF:=SF.rely hF qL;clear qL;rw[bf];simp only[bF];refine⟨aZ qj _,?_⟩)
 (co_apply aO rfl;intro _ qL;replace hF:=SF.rely hF qL;clear qL;rw[aW];simp only[bF];refine⟨aZ qj _,?_⟩)
 (co_apply aO rfl;intro _ qL;replace hF:=SF.rely hF qL;clear qL)
 rw[lF (t:=true) rfl];simp only[bF,aX];refine⟨aZ qj _,?_⟩
 (co_apply aO rfl;intro _ qL;replace hF:=SF.rely hF qL;clear qL;rw[fB];simp only[bF];refine⟨aZ qj _,?_⟩)
 (co_apply aO rfl;intro _ qL;replace hF:=SF.rely hF qL;clear qL;rw[aW];simp only[bF];refine⟨aZ qj _,?_⟩)
 (co_apply aO rfl;intro _ qL;replace hF:=SF.rely hF qL;clear qL;rw[lG];simp only[bF];refine⟨aZ qj _,?_⟩)
 rw[amc]
 (co_apply aO rfl;intro _ qL;replace hF:=SF.rely hF qL;clear qL;rw[aW];simp only[bF];refine⟨aZ qj _,?_⟩)
 (co_apply aO rfl;intro _ qL;replace hF:=SF.rely hF qL;clear qL;rw[dS,n15];simp only[bF,List.range,List.range.loop];refine⟨aZ qj _,?_⟩;simp only[o15,q15])
 (co_apply aO rfl;intro _ qL;replace hF:=SF.rely hF qL;clear qL
  refine goes_oper_k rfl rfl aC (λKq uK=>?_)
  (skip)
  go_simp
  try(unfold stored;go_simp)
  refine uK _ _ ⟨?_,?_⟩
  ·(co_quiet qj)
  clear uK Kq
  try walk_nrm)
 (co_apply aO rfl;intro _ qL;replace hF:=SF.rely hF qL;clear qL
  refine goes_oper_k rfl rfl aC (λKq uK=>?_)
  (skip)
  go_simp
  try(unfold stored;go_simp)
  refine uK _ _ ⟨?_,?_⟩
  ·(co_still qj)
  clear uK Kq
  try walk_nrm)
 (co_apply aO rfl;intro _ qL;replace hF:=SF.rely hF qL;clear qL)
 refine goes_oper_k rfl rfl aC (λK hK=>?_);have h0:=hF.low.hp0 j hj;have h1:=hF.low.EE j c hcj;go_simp;refine hK _ _ ⟨?_,?_⟩
 .refine ui (b:=E.bp) (.inr hF.low.lp) (by have:=hF.low.lp.1;have:=hF.bs.hB;omega) ?_;intro e he;have hm:=mem_listed he;simp[go_sem, *]at hm;rcases hm with rfl|rfl<;>exact⟨_,rfl,rfl⟩
 clear hK K h0 h1
 try walk_nrm
 (co_apply aO rfl;intro _ qL;replace hF:=SF.rely hF qL;clear qL
  refine goes_oper_k rfl rfl aC (λKq uK=>?_)
  (skip)
  go_simp
  try(unfold stored;go_simp)
  refine uK _ _ ⟨?_,?_⟩
  ·(rw[listed_nil kZ];exact zC hF.bs.hC _ rfl)
  clear uK Kq
  try walk_nrm)
 replace hF:=hF.aeQ (.int .i64 0);generalize hN:Array.size (World.heap _)=bj at hF⊢;clear hN
 (co_apply aO rfl;intro _ qL;replace hF:=SJ.rely hF qL;clear qL
  refine goes_oper_k rfl rfl aC (λKq uK=>?_)
  (skip)
  go_simp
  try(unfold stored;go_simp)
  refine uK _ _ ⟨?_,?_⟩
  ·(rw[listed_nil kZ];exact zC hF.sf.bs.hC _ rfl)
  clear uK Kq
  try walk_nrm)
 replace hF:=hF.aqr (.int .i64 0) (.slice none 0 0);generalize hN:Array.size (World.heap _)=bc at hF⊢;clear hN
 (co_apply aO rfl;intro _ qL;replace hF:=SG.rely hF qL;clear qL
  refine goes_oper_k rfl rfl aC (λKq uK=>?_)
  (have h0:=hF.cj.1;have h1:=hF.cj.2)
  go_simp
  try(unfold stored;go_simp)
  refine uK _ _ ⟨?_,?_⟩
  ·(refine Qw hF.mj hF.jC (hF.sf.bs.lt hF.mj) ?_;co_evs (exact⟨_,_,rfl,rfl⟩))
  clear uK Kq
  try walk_nrm)
 clear h0 h1;replace hF:=hF.aoF (.int .i64 ((j:Nat):Int))
 (co_apply aO rfl;intro _ qL;replace hF:=SG.rely hF qL;clear qL)
 refine goes_oper_k rfl rfl aC (λK hK=>?_);have h0:=hF.cc.1.1;have h1:=hF.cc.1.2;have h2:=hF.cc.2.1;have h3:=hF.cc.2.2;go_simp;refine hK _ _ ⟨?_,?_⟩
 .refine amb hF.mc hF.cC (hF.sf.bs.lt hF.mc) ?_;intro e he;have hm:=mem_listed he;simp[go_sem, *]at hm;rcases hm with rfl|rfl<;>exact⟨_,_,rfl,rfl⟩
 clear hK K h0 h1 h2 h3
 try walk_nrm
 replace hF:=hF.as8 (.int .i64 ((E.px j:Nat):Int)) (.slice c.bs L c.co)
 (co_apply aO rfl;intro _ qL;replace hF:=SG.rely hF qL;clear qL;rw[bf];simp only[bF];refine⟨aZ qj _,?_⟩)
 (co_apply aO rfl;intro _ qL;replace hF:=SG.rely hF qL;clear qL;rw[aW];simp only[bF];refine⟨aZ qj _,?_⟩)
 (co_apply aO rfl;intro _ qL;replace hF:=SG.rely hF qL;clear qL;rw[aW];simp only[bF];refine⟨aZ qj _,?_⟩)
 (co_apply aO rfl;intro _ qL;replace hF:=SG.rely hF qL;clear qL;rw[dS,n16];simp only[bF,List.range,List.range.loop];refine⟨aZ qj _,?_⟩;simp only[o16,q16])
 (co_apply aO rfl;intro _ qL;replace hF:=SG.rely hF qL;clear qL
  refine goes_oper_k rfl rfl aC (λKq uK=>?_)
  (skip)
  go_simp
  try(unfold stored;go_simp)
  refine uK _ _ ⟨?_,?_⟩
  ·(co_still qj)
  clear uK Kq
  try walk_nrm)
 (co_apply aO rfl;intro _ qL;replace hF:=SG.rely hF qL;clear qL
  refine goes_oper_k rfl rfl aC (λKq uK=>?_)
  (have h0:=hF.cc.1.1)
  go_simp
  try(unfold stored;go_simp)
  refine uK _ _ ⟨?_,?_⟩
  ·(refine ui (.inl hF.mc) (hF.sf.bs.lt hF.mc) ?_;co_evs (exact⟨_,rfl,rfl⟩))
  clear uK Kq
  try walk_nrm)
 clear h0
 (co_apply aO rfl;intro _ qL;replace hF:=SG.rely hF qL;clear qL
  refine goes_oper_k rfl rfl aC (λKq uK=>?_)
  (have h0:=hF.cj.1)
  go_simp
  try(unfold stored;go_simp)
  refine uK _ _ ⟨?_,?_⟩
  ·(refine ui (.inl hF.mj) (hF.sf.bs.lt hF.mj) ?_;co_evs (exact⟨_,rfl,rfl⟩))
  clear uK Kq
  try walk_nrm)
 clear h0
 (co_apply aO rfl;intro _ qL;replace hF:=SG.rely hF qL;clear qL
  refine goes_oper_k rfl rfl aC (λKq uK=>?_)
  (skip)
  go_simp
  try(unfold stored;go_simp)
  refine uK _ _ ⟨?_,?_⟩
  ·(co_quiet qj)
  clear uK Kq
  try walk_nrm)
 (co_apply aO rfl;intro _ qL;replace hF:=SG.rely hF qL;clear qL;rw[bf];simp only[bF];refine⟨aZ qj _,?_⟩)
 exact acY _ _ _ _ _ ⟨_,_,_,_,_,_,_,_,_,_,_,_,_,_,_,_,_,_,_,_,_,_,_,_,_,_,_,_,_,_,_,_,_,_,_,_,_,_,_,_,_,_,_,_,_,_,_,_,_,_,_,_,_,_,_,_,_,_,_,rfl⟩ hF
