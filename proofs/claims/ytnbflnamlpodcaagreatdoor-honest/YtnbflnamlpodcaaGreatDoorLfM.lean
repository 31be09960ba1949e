import Derived.Test.YtnbflnamlpodcaaGreatDoorCoD
import Derived.RangeFuncRecord
set_option maxHeartbeats 2000000
set_option maxRecDepth 100000
namespace Go.Proofs.Y
open Go.Conc Go.RowKit Go.Gh
open Go.ConcR (Payload)
structure UK where
 bs:aY
 bo:Nat
 oo:Nat
 co:Nat
 ys:aA
def comb:List (Nat×aA)->aA->aA
 |[],cur=>cur
 |z::zs,cur=>comb zs (AU z.1 cur z.2)
theorem C_:∀(zs:List (Nat×aA))(cur:aA),(comb zs cur).length=cur.length
 |[],_=>rfl
 |z::zs,cur=>by rw[comb,C_ zs,RG]
theorem Q7:∀(zs:List (Nat×aA))(cur:aA)(z:Nat×aA),comb (zs++[z]) cur=AU z.1 (comb zs cur) z.2
 |[],_,_=>rfl
 |y::zs,cur,z=>by rw[bT,comb,Q7 zs,comb]
theorem afL:∀(zs:List (Nat×aA))(cur:aA),(∀z∈zs,z.1<256/\∀y∈z.2,y<256)->(∀x∈cur,x<256)->∀x∈comb zs cur,x<256
 |[],_,_,h=>h
 |z::zs,cur,h1,h2=>afL zs _ (λy hy=>h1 y (by simp[hy])) (ae4 z.1 (h1 z ax).1 cur z.2 h2 (h1 z ax).2)
theorem ahu(L:Nat):madeCells #[.int .u8 0] L=uh (List.replicate L 0):=by
 apply mi;intro i;rw[yK];by_cases h:i<L
 .simp[madeCells,h,Nat.mod_one]
 .simp[madeCells,h]
section
variable [Payload][rq]{main:Bool}{Wg C n B:Nat}{Cl:Nat->Prop}
structure CIn(Wg C B:Nat)(bw ow bc oc L:Nat)(ws:aA)(cs:List UK)(w:ah):Prop where
 rw:TD Wg C B w bw
 lw:bw<w.heap.size
 rc:TD Wg C B w bc
 lc:bc<w.heap.size
 hw:∀j x,ws[j]?=some x->w.cell? ⟨bw,ow+j,none⟩=some (.int .u8 ((x:Nat):Int))
 hc:∀j c,cs[j]?=some c->w.cell? ⟨bc,oc+j,none⟩=some (.slice c.bs L c.co)
 xR:∀c∈cs,TD Wg C B w c.bo/\c.bo<w.heap.size/\(0<L->c.bs=some ⟨c.bo,c.oo,none⟩)/\∀i y,c.ys[i]?=some y->w.cell? ⟨c.bo,c.oo+i,none⟩=some (.int .u8 ((y:Nat):Int))
theorem CIn.ex{w w₁:ah}{bw ow bc oc L:Nat}{ws:aA}{cs:List UK}(h:CIn Wg C B bw ow bc oc L ws cs w)(r:Ex Wg C n B Cl (λ_=>False) w w₁):CIn Wg C B bw ow bc oc L ws cs w₁:=by
 have st:∀{b:Nat},TD Wg C B w b->∀o,w₁.cell? ⟨b,o,none⟩=w.cell? ⟨b,o,none⟩:=λhb o=>awi
 exact⟨r.rdb h.rw,bG h.lw r.size,r.rdb h.rc,bG h.lc r.size,λj x e=>(st h.rw _).trans (h.hw j x e),λj c e=>(st h.rc _).trans (h.hc j c e),
  λc hc=>let⟨h1,h2,h3,h4⟩:=h.xR c hc;⟨r.rdb h1,bG h2 r.size,h3,λi y e=>(st h1 _).trans (h4 i y e)⟩⟩
structure CF(Wg C n B:Nat)(Cl:Nat->Prop)(w0 w:ah):Prop where
 bs:Bs C B w
 ex:Ex Wg C n B Cl (λ_=>False) w0 w
omit [rq]in
theorem CF.rely{w0 w w₁:ah}(h:CF Wg C n B Cl w0 w)(r:Ro Wg C n B Cl w w₁):CF Wg C n B Cl w0 w₁:=⟨h.bs.rely r,h.ex.rely r⟩
structure CG(Wg C n B:Nat)(Cl:Nat->Prop)(w0:ah)(N:Nat)(cur:aA)(w:ah):Prop where
 bs:Bs C B w
 ex:Ex Wg C n B Cl (λ_=>False) w0 w
 lo:w0.heap.size<=N
 mn:qZ w N
 hx:w.heap[N]?=some (.cells (uh cur) 5)
omit [rq]in
theorem CG.rely{w0 w w₁:ah}{N:Nat}{cur:aA}(h:CG Wg C n B Cl w0 N cur w)(r:Ro Wg C n B Cl w w₁):CG Wg C n B Cl w0 N cur w₁:=⟨h.bs.rely r,h.ex.rely r,h.lo,(r.yL _).2 h.mn,(r.mine _ h.mn).trans h.hx⟩
omit [rq]in
theorem CF.alloc{w0 w:ah}(h:CF Wg C n B Cl w0 w)(L:Nat):CG Wg C n B Cl w0 w.heap.size (List.replicate L 0) (w.alloc (.cells (madeCells #[.int .u8 0] L) 5)):=
 ⟨h.bs.alloc _,VR h.ex h.bs _,h.ex.size,zY (w:=w) (w':=w.alloc _) rfl h.bs.tg (az _) iL,by rw[EI,ahu]⟩
omit [rq]in
theorem CG.back{w0 w w₁:ah}(h0:Bs C B w0){N:Nat}{cur:aA}(h:CG Wg C n B Cl w0 N cur w)(r:Ex Wg C n B Cl (· =N) w w₁):Ex Wg C n B Cl (λ_=>False) w0 w₁:=
 ⟨bu h.ex.size r.size,r.tape.trans h.ex.tape,r.os.trans h.ex.os,r.tag∘h.ex.tag,λb x=>r.own b (h.ex.own b x),λb x y=>(r.mine b (h.ex.own b x) (λe=>by have:=h0.lt x;have:=h.lo;omega)).trans (h.ex.mine b x y),
  λb x y z=>(r.low b x y z).trans (h.ex.low b x y z),λi x=>(r.cell i x).trans (h.ex.cell i x),r.pay∘h.ex.pay⟩
def FC(ws:aA)(cs:List UK):List (Nat×aA):=ws.zip (cs.map (·.ys))
def CI(Wg C n B:Nat)(Cl:Nat->Prop)(w0:ah)(bw ow cw bc oc cc L k N:Nat)(ws:aA)(cs:List UK)(a:Act)(w:ah):Prop:=
 ∃(j:Nat)(v2 v3 v4 v6 v7 v8 v9 v10 v11 v12 Oh Ud Qk Ql v20 v21 v22 Ux v24 Qm v26 v27 v28:ai),j<=k/\CG Wg C n B Cl w0 N (comb ((FC ws cs).take j) (List.replicate L 0)) w/\a={tmps:=#[.slice (some ⟨bw,ow,none⟩) k cw,.slice (some ⟨bc,oc,none⟩) k cc,v2,v3,v4,.slice (some ⟨N,0,none⟩) L L,v6,v7,v8,v9,v10,v11,v12,.slice (some ⟨bc,oc,none⟩) k cc,.int .i64 ((k:Nat):Int),.int .i64 ((j:Nat):Int),Oh,Ud,Qk,Ql,v20,v21,v22,Ux,v24,Qm,v26,v27,v28],defers:=[]}
def muC(k:Nat)(a:Act)(_:ah):Nat:=match a.tmps.getD 15 undef with| .int _ j=>k-j.toNat|_=>0
omit [Payload][rq]in
theorem Uh:(Tryz.prog.info? 5).map (λi=>(i.zero,i.size,i.bytes))=some (some (.int .u8 0),1,1):=aj
theorem Yc(k L:Nat)(hk0:0<k)(hk:k<=128)(hL:L<=140737488355328):∃q,∀(w:ah)(bw ow cw bc oc cc:Nat)(ws:aA)(cs:List UK),DU ws k->cs.length=k->(∀x∈ws,x<256)->(∀c∈cs,DU c.ys L/\∀y∈c.ys,y<256)->Bs C B w->CIn Wg C B bw ow bc oc L ws cs w->
  CallsC Tryz.prog main (Ro Wg C n B Cl) (Dg Wg C n B Cl) 51 #[.slice (some ⟨bw,ow,none⟩) k cw,.slice (some ⟨bc,oc,none⟩) k cc] q w λv w'=>∃N,v=.slice (some ⟨N,0,none⟩) L L/\CG Wg C n B Cl w N (comb (FC ws cs) (List.replicate L 0)) w':=by
 obtain⟨qa,ha⟩:=adl (main:=main) (Wg:=Wg) (C:=C) (n:=n) (B:=B) (Cl:=Cl) L;obtain⟨i0,hi,yz,xA,wH⟩:=dm Uh
 have Y_:∀w:ah,(Instr.makeSlice 34 (.int .i64 (L:Int)) (.int .i64 (L:Int))).run Tryz.prog w=.ok (.slice (some ⟨w.heap.size,0,none⟩) L L) (w.alloc (.cells (madeCells #[.int .u8 0] L) 5)):=λw=>by exact azG
 have hme:∀(w:ah)(es:aH),(Instr.makeSlice 34 (.int .i64 (L:Int)) (.int .i64 (L:Int))).events Tryz.prog w es=es:=λw es=>
  events_make (P:=Tryz.prog) w 34 5 i0 (.int .u8 0) Tryz.underlying34 hi yz .i64 .i64 (L:Int) (L:Int) ag ag ik ag awt es
 clear hi yz xA wH;co_apply Exists.intro;intro w bw ow cw bc oc cc ws cs hlw hlc hws hcs hb P8;co_apply callsC_of_wpC Tryz.func51 aI rfl;simp only[Tryz.ntmps51,fU,dJ,dY,Nat.reduceAdd,Nat.reduceSub,dR,dQ,dM,dP,dA,bT];have hF:CF Wg C n B Cl w w:=⟨hb,.refl w⟩;have hkI:(0:Int)<(k:Int):=ag;obtain⟨c0,hc0⟩:∃c,cs[0]?=some c:=⟨cs[0]' ag,ax⟩;co_apply bY qj;co_reg qj;co_op CF.rely hF (co_quiet qj);co_apply bV qj;co_then;co_apply bY qj;co_reg qj;co_op CF.rely hF (co_quiet qj)
 co_opw CF.rely hF (skip) (co_still qj)
 co_opw CF.rely hF (have hc:=(P8.ex hF.ex).hc 0 c0 hc0;simp only[gy]at hc) (refine ui (P8.ex hF.ex).rc (P8.ex hF.ex).lc ?_;co_evs (exact⟨_,rfl,rfl⟩))
 clear hc;co_op CF.rely hF (co_quiet qj)
 co_opw CF.rely hF (skip) (rw[listed_nil kZ];exact zC hF.bs.hC _ rfl)
 replace hF:=hF.alloc L;generalize hN:Array.size (World.heap _)=N at hF⊢;clear hN;co_op CG.rely hF (co_quiet qj);co_apply bV qj;co_then;co_apply bY qj;co_apply bY qj;co_reg qj;co_op CG.rely hF (co_quiet qj);co_op CG.rely hF (co_quiet qj);co_op CG.rely hF (co_quiet qj);co_apply bV qj;co_then;co_apply lu qj;co_apply kJ qj (CI Wg C n B Cl w bw ow cw bc oc cc L k N ws cs) (muC k) _ k
 .exact⟨0,_,_,_,_,_,_,_,_,_,_,_,_,_,_,_,_,_,_,_,_,_,_,_,gY _,hF,rfl⟩
 .simp[muC]
 rintro a w' ⟨j,v2,v3,v4,v6,v7,v8,v9,v10,v11,v12,Oh,Ud,Qk,Ql,v20,v21,v22,Ux,v24,Qm,v26,v27,v28,hj,hF,rfl⟩;co_apply bY qj;co_reg qj;co_op CG.rely hF (co_quiet qj);co_apply bV qj;co_then;co_apply bY qj
 co_split qj (decide ((j:Int)<(k:Int)))
 .intro Oq;have aiu:j<k:=awV;have hjI:(j:Int)<(k:Int):=ag;clear Oq;obtain⟨c,hcj⟩:∃c,cs[j]?=some c:=⟨cs[j]' ag,ax⟩;obtain⟨x,hxj⟩:∃x,ws[j]?=some x:=⟨ws[j]'(by rw[show ws.length=k from hlw];omega),ax⟩;have alh:x<256:=hws x (jA hxj);have sU:=jA hcj;obtain⟨hly,hys⟩:=hcs c sU
  co_ctl qj
  co_then;co_apply bY qj;co_apply lu qj;co_apply bY qj;co_reg qj;co_op CG.rely hF (co_quiet qj)
  co_opw CG.rely hF (skip) (co_still qj)
  co_opw CG.rely hF (have hc:=(P8.ex hF.ex).hc j c hcj) (refine ui (P8.ex hF.ex).rc (P8.ex hF.ex).lc ?_;co_evs (exact⟨_,rfl,rfl⟩))
  clear hc;co_op CG.rely hF (co_quiet qj);co_op CG.rely hF (co_quiet qj);co_apply bV qj;co_then;co_reg qj;co_op CG.rely hF (co_quiet qj);co_op CG.rely hF (co_quiet qj);co_op CG.rely hF (co_quiet qj)
  co_opw CG.rely hF (skip) (co_still qj)
  co_opw CG.rely hF (have hc:=(P8.ex hF.ex).hw j x hxj) (refine ui (P8.ex hF.ex).rw (P8.ex hF.ex).lw ?_;co_evs (exact⟨_,rfl,rfl⟩))
  clear hc;co_op CG.rely hF (co_quiet qj);have xR:=(P8.ex hF.ex).xR c sU;have hN1:=hF.lo;have Ui:=hb.hC;have hN3:=hb.hB;have hN4:=(P8.xR c sU).2.1
  have hAF:∀w1,CG Wg C n B Cl w N (comb ((FC ws cs).take j) (List.replicate L 0)) w1->AF Wg C n B Cl w1 N (comb ((FC ws cs).take j) (List.replicate L 0)) c.bo c.oo c.ys w1:=λw1 h1=>
   ⟨h1.bs,.refl _,h1.mn,ag,ag,((P8.ex h1.ex).xR c sU).1,((P8.ex h1.ex).xR c sU).2.1,ag,h1.hx,((P8.ex h1.ex).xR c sU).2.2.2⟩
  have ar1:∀z∈(FC ws cs).take j,z.1<256/\∀y∈z.2,y<256:=by intro z hz;have hz:=aw8 hz;have h1:=List.of_mem_zip hz;refine⟨hws _ h1.1,?_⟩;obtain⟨c',hc',e⟩:=gz.1 h1.2;rw[<-e];exact(hcs c' hc').2
  co_apply opsC_call qj rfl aI rfl
  .walk_nrm;exact ha _ c.bs N L L c.bo c.oo c.co x _ c.ys (P8.xR c sU).2.2.1 alh (afL _ _ ar1 (by intro x hx;rw[List.mem_replicate]at hx;omega)) hys (by show List.length _=L;rw[C_];simp) (az _) hly (by simp[maxLen];omega) (hAF _ hF)
  rintro v w' ⟨rfl,haf⟩
  have hsn:(FC ws cs).take (j+1)=(FC ws cs).take j++[(x,c.ys)]:=by
   rw[List.take_add_one]
   congr 1
   simp[FC,List.getElem?_zip_eq_some,hxj,hcj]
  replace hF:CG Wg C n B Cl w N (comb ((FC ws cs).take (j+1)) (List.replicate L 0)) w':=⟨haf.bs,hF.back hb haf.ex,hF.lo,haf.ml,by rw[hsn,Q7];exact haf.hx⟩;clear haf hAF;walk_nrm;co_apply bV qj;co_then;co_reg qj;co_op CG.rely hF (co_quiet qj);co_op CG.rely hF (co_quiet qj);co_apply bV qj;co_then;have BB:IntKind.i64.wrap ((j:Int)+1)=((j+1:Nat):Int):=iw;simp only[BB];refine⟨⟨j+1,_,_,_,_,_,_,_,_,_,_,_,_,_,_,_,_,_,_,_,_,_,_,_,ag,hF,rfl⟩,?_⟩;simp[muC];omega
 .intro Oq;have hjk:j=k:=awW;have w_:(FC ws cs).take j=FC ws cs:=jg (by simp[FC];omega);rw[w_]at hF
  co_ctl qj
  co_then;co_apply bY qj;co_reg qj;co_op CG.rely hF (co_quiet qj);co_op CG.rely hF (co_quiet qj);co_apply bV qj;co_then;co_apply wpC_ret qj;exact ayr
end
end Go.Proofs.Y
namespace Go.Lf
open Go.Conc
def aar:Obj->Bool
 | .view a _=>!a.spot.isSome
 | .pending ..=>true
 |_=>false
def shut:Obj->Obj
 | .view _ t=>.view ⟨0,0,some default⟩ t
 | .pending ..=>.stringIter .empty 0
 |o=>o
def ap4:Obj->Obj
 | .cells _ t fr=>.cells #[] t fr
 |o=>o
theorem ann{o:Obj}(h:aar o=false):wX o:=by cases o<;>first|trivial|(simp[aar]at h;exact h)|cases h
theorem acu{o:Obj}(h:aar o=true):Px o (shut o):=by cases o<;>first|exact .inl ⟨_,_,rfl,rfl⟩|exact .inr ⟨_,_,rfl,rfl⟩|cases h
end Go.Lf
namespace Go.Proofs.Y
theorem abC(n:Nat)(f:Nat->F):F.sum (List.range (n+1)) f=F.add (F.sum (List.range n) f) (f n):=by
 have key:∀(l:aA)(x:Nat),F.sum (l++[x]) f=F.add (F.sum l f) (f x):=λl x=>by
  induction l with
  |nil=>simp only[dA,F.sum];rw[F.add_zero,F.zero_add]
  |cons y l ih=>simp only[bT,F.sum,ih,F.add_assoc]
 rw[dZ,key]
theorem U6(w:Nat->Nat)(c:Nat->aA)(L m:Nat)(hm:m<L)(hc:∀j,(c j).length=L):∀n:Nat,
  (comb ((List.range n).map λj=>(w j,c j)) (List.replicate L 0)).getD m 0=Nat.rec (motive:=λ_=>Nat) 0 (λj r=>r^^^mul ((c j).getD m 0) (w j)) n
 |0=>by show(List.replicate L 0).getD m 0=0;simp[hm]
 |n+1=>by
  rw[dZ,jh];simp only[gU,jU];rw[Q7];have hl:(comb ((List.range n).map λj=>(w j,c j)) (List.replicate L 0)).length=L:=by rw[C_];simp
  have ih:=U6 w c L m hm hc n
  have key:∀(f:Nat)(xs ys:aA)(m:Nat),m<xs.length->m<ys.length->(AU f xs ys).getD m 0=xs.getD m 0^^^mul (ys.getD m 0) f:=by
   intro f xs
   induction xs with
   |nil=>intro ys m h;simp at h
   |cons x xs ihx=>
    intro ys m h h';cases ys with
    |nil=>simp at h'
    |cons y ys=>
     cases m with
     |zero=>simp[AU]
     |succ m=>
      simp only[AU,List.getD_cons_succ];exact ihx ys m mD (by simpa using h')
  rw[key _ _ _ m (by rw[hl];exact hm) (by rw[hc];exact hm),ih]
theorem afh(K:Nat)(R X:Nat->F):∀n,Nat.rec (motive:=λ_=>Nat) 0 (λj r=>r^^^mul (X j).val (R j).val) n=(F.sum (List.range n) λj=>F.mu (R j) (X j)).val
 |0=>rfl
 |n+1=>by rw[abC];show _^^^_=(F.sum (List.range n) λj=>F.mu (R j) (X j)).val^^^(F.mu (R n) (X n)).val;rw[<-afh K R X n,F.y_];rfl
end Go.Proofs.Y
namespace Go.Lf
open Go.Conc Go.Gh Go.RowKit
open Classical
noncomputable def N9(X:Nat->Prop)(b:Nat)(o:Obj):Obj:=if X b then ap4 o else if aar o then shut o else o
theorem Uj(w:ah)(X:Nat->Prop)(h:∀b,X b->∃cs t,w.heap[b]?=some (.cells cs t (0,0))):
  ∃(Y:Nat->aV)(v:ah),xZ X Y w v/\(∀b c t fr,¬X b->w.heap[b]?=some (.cells c t fr)->v.heap[b]?=some (.cells c t fr)):=by
 let Y:Nat->aV:=λb=>if X b then none else(w.heap[b]?).bind λo=>if aar o then some o else none
 have MH:∀b,(w.heap.mapIdx (N9 X))[b]?=(w.heap[b]?).map (N9 X b):=λb=>ax
 have hY:∀b o,Y b=some o->¬X b/\w.heap[b]?=some o/\aar o=true:=λb o hy=>by
  simp only[Y]at hy;split at hy
  .cases hy
  .rename_i hne;cases hb:w.heap[b]? with
   |none=>rw[hb]at hy;cases hy
   |some o'=>
    rw[hb]at hy;simp only[gK]at hy;split at hy
    .rename_i hg;cases hy;exact⟨hne,rfl,hg⟩
    .cases hy
 refine⟨Y,{w with heap:=w.heap.mapIdx (N9 X)},⟨ax,λb hb=>?_,λb hx hy=>?_,λb o hy=>?_,λb hx=>?_,λb o hb=>?_,rfl,rfl,λ_ _=>rfl,λb cs t fr hx hb=>?_⟩,λb c t fr hx hb=>?_⟩
 .rcases hb with hb|hb
  .obtain⟨cs,t,hc⟩:=h b hb;simpa using(dh.1 hc).1
  .obtain⟨o,ho⟩:=aw0.1 hb;simpa using(dh.1 (hY b o ho).2.1).1
 .show w.heap[b]?=(w.heap.mapIdx (N9 X))[b]?;rw[MH];cases hb:w.heap[b]? with
  |none=>rfl
  |some o=>
   simp only[Y,au hx,hb,gK]at hy
   have hg:aar o=false:=by
    cases hg:aar o with
    |false=>rfl
    |true=>rw[hg]at hy;cases hy
   simp only[fA,N9,au hx,hg,dC,bQ]
 .obtain⟨h1,h2,h3⟩:=hY b o hy;refine⟨shut o,h2,?_,acu h3⟩;show(w.heap.mapIdx (N9 X))[b]?=_;rw[MH,h2];simp only[fA,N9,au h1,h3,aX]
 .obtain⟨cs,t,hc⟩:=h b hx;refine⟨cs,t,(0,0),hc,?_⟩;show(w.heap.mapIdx (N9 X))[b]?=_;rw[MH,hc];simp only[fA,N9,ay hx,ap4]
 .change(w.heap.mapIdx (N9 X))[b]?=some o at hb;rw[MH]at hb;obtain⟨o',h1,rfl⟩:=dL.1 hb;unfold N9;split
  .rename_i hx;obtain⟨cs,t,hc⟩:=h b hx;rw[h1]at hc;cases hc;trivial
  .split
   .rename_i hg;exact(acu hg).nv
   .rename_i hg;exact ann (by simpa using hg)
 .change(w.heap.mapIdx (N9 X))[b]?=_ at hb;obtain⟨cs',t',hc⟩:=h b hx;rw[MH,hc]at hb;simp only[fA,N9,ay hx,ap4,iE,Obj.cells.injEq]at hb;exact hb.2.2.symm
 .show(w.heap.mapIdx (N9 X))[b]?=_;rw[MH,hb];simp only[fA,N9,au hx,aar,dC,bQ]
theorem Zx{X:Nat->Prop}{Shun:Loc->Prop}(h:∀l,Shun l->∃a:Addr,l=.cell a/\X a.block):uU X (DM Shun):=by
 intro n w es hs hev;refine⟨hs,λe he=>?_⟩;rcases hev e he with⟨a,wr,rfl,h2,h3⟩|⟨r,wr,sy,rfl,_,_⟩|⟨m0,hm0,rfl⟩
 .refine⟨⟨λx hx hsh=>?_,ax,ax⟩,λx hx ad ead=>?_⟩
  .simp only[MemAct.ofEvent,MemAct.touch?,iE]at hx;subst hx;obtain⟨a',h4,h5⟩:=h _ hsh;cases h4;exact absurd h5 h3
  .simp only[MemAct.ofEvent,MemAct.touch?,iE]at hx;subst hx;cases ead;exact h2
 .have no:∀x,(MemAct.ofEvent ⟨.obj r,wr,sy⟩).touch?=some x->∀a:Addr,x.loc≠.cell a:=λx hx a e=>by
   cases wr<;>cases sy<;>simp only[MemAct.ofEvent,MemAct.touch?,iE,reduceCtorEq]at hx<;>(subst hx;cases e)
  exact⟨⟨λx hx hsh=>by obtain⟨a',h4,_⟩:=h _ hsh;exact absurd h4 (no x hx a'),ax,ax⟩,λx hx ad ead=>absurd ead (no x hx ad)⟩
 .rcases hm0 with rfl|⟨_,rfl⟩<;>exact⟨⟨λx hx=>axo,ax,ax⟩,λx hx=>axo⟩
def sH(B:Nat)(w w':ah):Prop:=Below B {w with tape:=w'.tape} w'
theorem sH.of{B:Nat}{w w':ah}(h:Below B w w'):sH B w w':=⟨h.os,rfl,h.output,h.size,h.block⟩
theorem sH.refl(B:Nat)(w:ah):sH B w w:=sH.of (aT B w)
theorem sH.tp{B:Nat}{w w':ah}(h:sH B w w')(τ:Nat->Question->Nat)(d:Nat):sH B w {w' with tape:=τ,drawn:=d}:=⟨h.os,rfl,h.output,h.size,h.block⟩
theorem sH.trans{B B':Nat}{w w' w'':ah}(h:sH B w w')(h':sH B' w' w'')(hB:B<=B'):sH B w w'':=⟨h'.os.trans h.os,rfl,h'.output.trans h.output,bu h.size h'.size,λk hk=>(h'.block k (bG hk hB)).trans (h.block k hk)⟩
theorem sH.sN{B:Nat}{w w':ah}(h:sH B w w'):w.heap.size<=w'.heap.size:=h.size
theorem sH.blk{B:Nat}{w w':ah}(h:sH B w w'){k:Nat}(hk:k<B):w'.heap[k]?=w.heap[k]?:=h.block k hk
theorem sH.mono{B B':Nat}{w w':ah}(h:sH B w w')(hB:B'<=B):sH B' w w':=⟨h.os,rfl,h.output,h.size,λk hk=>h.block k (bG hk hB)⟩
end Go.Lf
namespace Go.Lf
open Go.Conc
structure Ext where
 k:b_
 ro:Option Nat
 ds:List Deferred
def zx(E:Ext)(f:aJ):aJ:={f with todo:=f.todo++E.k,roundOf:=E.ro,defers:=E.ds}
theorem BZ{f:aJ}(h1:f.roundOf=none)(h2:f.defers=[]):zx ⟨[],none,[]⟩ f=f:=by obtain⟨fn,tmps,todo,defers,mode,kind,round⟩:=f;dsimp only at h1 h2;subst h1 h2;simp[zx]
def Ends(t:b_):Prop:=t=[]\/∃k,t=.code .ret::k
section
variable {P:aN}{F:aU->Bool}{X:Nat->Prop}{Y:Nat->aV}{D:Nat->ah->aH->Prop}{Stop:aG->ah->Prop}
theorem an9(E:Ext)(f:aJ):(zx E f).eval=f.eval:=by
 funext x
 cases x<;>rfl
theorem U2{fr:aJ}{o:Oper}{cs:aP}{dy:Option Dying}{w:ah}(h:∀c,o.op≠.defer c)(ho:fr.oper?=some o):stepG.oper P true fr cs dy w=stepG.apply P true fr cs dy (execOp fr.eval o) w:=by
 unfold stepG.oper;rw[ho];dsimp only;split
 .rename_i hx;exact absurd hx (h _)
 .rfl
inductive ap5 (P:aN) (F:aU->Bool) (f:aJ) (cs:aP) (w w':ah) (es:aH) (g':aG):Prop
 |here {f':aJ}:g'=G f' cs->JB P F f'->(f'.mode=.run\/f'.mode=.returning)->(∀E Aq,(Ends f.todo->E=⟨[],none,[]⟩)->stepG P true (G (zx E f) Aq) w=.go (G (zx E f') Aq) w' es)->ap5 P F f cs w w' es g'
 |call {e:aJ}:g'=G e (f::cs)->JB P F e->e.mode=.run->(f.todo≠[]/\∀u,JB P F (f.finish u))->(∀E Aq,stepG P true (G (zx E f) Aq) w=.go (G e (zx E f::Aq)) w' es)->ap5 P F f cs w w' es g'
def acv(P:aN)(F:aU->Bool)(X:Nat->Prop)(Y:Nat->aV)(f:aJ)(cs:aP)(w v:ah):Prop:=
 (∃o v' es,stepG P true (G f cs) v=.ended o v' es)\/(∃ch v' es,stepG P true (G f cs) v=.go (G {f with mode:=.panicking ch} cs) v' es)\/
 ∃g' v' es w',stepG P true (G f cs) v=.go g' v' es/\Tp P (G f cs) v g' v' es/\xZ X Y w' v'/\w.heap.size<=w'.heap.size/\OM X w' es/\ap5 P F f cs w w' es g'
theorem Q8{f f':aJ}{cs:aP}{w v:ah}(hs:xZ X Y w v)(h:∀E Aq u,(Ends f.todo->E=⟨[],none,[]⟩)->stepG P true (G (zx E f) Aq) u=.go (G (zx E f') Aq) u #[])(hT:JB P F f')(hm:f'.mode=.run\/f'.mode=.returning)(h1:f.roundOf=none:=by rfl)(h2:f.defers=[]:=by rfl):acv P F X Y f cs w v:=by
 have key:∀u,stepG P true (G f cs) u=.go (G f' cs) u #[]:=λu=>by have:=h ⟨[],none,[]⟩ cs u (λ_=>rfl);rwa[BZ h1 h2,BZ hT.round hT.defers]at this
 exact azc
theorem ap6(hF:xY P F){f:aJ}{cs:aP}{w v:ah}(hT:JB P F f)(hm:f.mode=.run)(hs:xZ X Y w v):acv P F X Y f cs w v:=by
 obtain⟨fn,tmps,todo,defers,mode,kind,round⟩:=f;obtain⟨⟨G9,Oi⟩,hk,hd,hr,S,ht,hS⟩:=hT;dsimp only at Oi hk hd hr ht hS hm;subst hk hd hr hm;have mk:∀{ac6:b_}{aky:FrameMode},(∀it∈ac6,Fa P F S it)->JB P F ⟨fn,tmps,ac6,[],aky,.normal,none⟩:=λh=>⟨⟨G9,Oi⟩,rfl,rfl,rfl,S,h,hS⟩
 cases todo with
 |nil=>exact Q8 (f':=⟨fn,tmps,[],[],.returning,.normal,none⟩) hs (λK Aq u hK=>by rw[hK (.inl rfl)];rfl) (mk ax) (.inr rfl)
 |cons it k=>
  have F7:=ht it ax;have hk:∀x∈k,Fa P F S x:=λx hx=>ht x mM
  have two:∀{a:Item},Fa P F S a->∀x∈a::k,Fa P F S x:=λha x hx=>by
   rcases dX.1 hx with rfl|hx
   .exact ha
   .exact hk x hx
  cases it with
  |code c=>
   cases c with
   |skip=>exact Q8 (f':=⟨fn,tmps,k,[],.run,.normal,none⟩) hs (λK Aq u _=>rfl) (mk hk) (.inl rfl)
   |ret=>exact Q8 (f':=⟨fn,tmps,.code .ret::k,[],.returning,.normal,none⟩) hs (λK Aq u hK=>by rw[hK (.inr ⟨_,rfl⟩)];simp only[G,zx,stepG,stepG.exec,d_];rfl) (mk ht) (.inr rfl)
   |seq a b=>
    have hab:uD P F S a=true/\uD P F S b=true:=qg
    exact Q8 (f':=⟨fn,tmps,.code a::.code b::k,[],.run,.normal,none⟩) hs (λK Aq u _=>rfl) (mk λx hx=>by
     rcases dX.1 hx with rfl|hx
     .exact hab.1
     .exact two (a:=.code b) hab.2 x hx) (.inl rfl)
   |cond c a b=>
    have hab:uD P F S a=true/\uD P F S b=true:=qg;cases he:(⟨fn,tmps,.code (.cond c a b)::k,[],.run,.normal,none⟩:aJ).eval c with
    |bool t=>
     refine Q8 (f':=⟨fn,tmps,.code (if t then a else b)::k,[],.run,.normal,none⟩) hs (λK Aq u _=>?_) (mk (two (a:=.code (if t then a else b)) (by cases t<;>simp[Fa,hab]))) (.inl rfl);have Ol:(zx K ⟨fn,tmps,.code (.cond c a b)::k,[],.run,.normal,none⟩).eval c=.bool t:=by rw[an9];exact he
     simp only[zx,bT]at Ol;simp only[G,zx,stepG,stepG.exec,bT,Ol]
    |_=>exact .inl ⟨_,_,_,axj⟩
   |block id c=>exact Q8 (f':=⟨fn,tmps,.code c::.inBlock id::k,[],.run,.normal,none⟩) hs (λK Aq u _=>rfl) (mk λx hx=>by
    rcases dX.1 hx with rfl|hx
    .exact F7
    .exact two (a:=.inBlock id) trivial x hx) (.inl rfl)
   |loop c=>exact Q8 (f':=⟨fn,tmps,.code c::.inLoop c::k,[],.run,.normal,none⟩) hs (λK Aq u _=>rfl) (mk λx hx=>by
    rcases dX.1 hx with rfl|hx
    .exact F7
    .exact two (a:=.inLoop c) F7 x hx) (.inl rfl)
   |exit id=>
    cases he:exitTo id k with
    |none=>exact .inl ⟨_,_,_,axk⟩
    |some k'=>exact Q8 (f':=⟨fn,tmps,k',[],.run,.normal,none⟩) hs (λK Aq u _=>by simp only[G,zx,stepG,stepG.exec,bT,Iw he,Option.elim]) (mk λx hx=>hk x (Iy he x hx)) (.inl rfl)
   |region id ops draw=>
    have ho:ops.all (FY P F S)=true:=F7;cases draw with
    |false=>exact Q8 (f':=⟨fn,tmps,.inRegion ops (List.range ops.size)::k,[],.run,.normal,none⟩) hs (λK Aq u _=>rfl) (mk (two (a:=.inRegion ops _) ho)) (.inl rfl)
    |true=>
     have hc:∀u:ah,(choose (.order fn id)).run P u=.ok (u.tape u.drawn (.order fn id)) {u with drawn:=u.drawn+1}:=λu=>rfl
     have et:w.tape w.drawn (.order fn id)=v.tape v.drawn (.order fn id):=axg
     refine .inr (.inr ⟨_,{v with drawn:=v.drawn+1},#[],{w with drawn:=w.drawn+1},axl,⟨rfl,Nat.le_succ _,λτ hτ=>axm⟩,hs.draw,az _,λe he=>n_,
      .here (f':=⟨fn,tmps,.inRegion ops (Region.schedule (P.follows .mixedOrders) ops (v.tape v.drawn (.order fn id)))::k,[],.run,.normal,none⟩) rfl (mk (two (a:=.inRegion ops _) ho)) (.inl rfl) λK Aq _=>?_⟩)
     simp only[G,zx,stepG,stepG.exec,bT,jm,dC,bQ,hc,et]
   |_=>cases F7
  |inBlock id=>exact Q8 (f':=⟨fn,tmps,k,[],.run,.normal,none⟩) hs (λK Aq u _=>rfl) (mk hk) (.inl rfl)
  |inLoop c=>exact Q8 (f':=⟨fn,tmps,.code c::.inLoop c::k,[],.run,.normal,none⟩) hs (λK Aq u _=>rfl) (mk λx hx=>by
     rcases dX.1 hx with rfl|hx
     .exact F7
     .exact two (a:=.inLoop c) F7 x hx) (.inl rfl)
  |inRegion ops is=>
   cases is with
   |nil=>exact Q8 (f':=⟨fn,tmps,k,[],.run,.normal,none⟩) hs (λK Aq u _=>rfl) (mk hk) (.inl rfl)
   |cons i rest=>
    have ho:ops.all (FY P F S)=true:=F7;cases hw:((ops[i]?).map (Region.wanted · (yielded ops tmps))).getD false with
    |false=>
     refine Q8 (f':=(⟨fn,tmps,.inRegion ops (i::rest)::k,[],.run,.normal,none⟩:aJ).finish undef) hs (λK Aq u _=>?_) ⟨⟨G9,Oi⟩,rfl,rfl,rfl,S,two (a:=.inRegion ops _) ho,hS.un _⟩ (.inl rfl);simp only[G,zx,stepG,stepG.exec,bT,hw,dC,bQ,Frame.finish]
    |true=>
     cases hoi:ops[i]? with
     |none=>rw[hoi]at hw;cases hw
     |some o=>
      have Em:FY P F S o=true:=mr.1 ho o (fZ hoi)
      have eA:∀K Aq u,stepG P true (G (zx K ⟨fn,tmps,.inRegion ops (i::rest)::k,[],.run,.normal,none⟩) Aq) u=
        stepG.apply P true (zx K ⟨fn,tmps,.inRegion ops (i::rest)::k,[],.run,.normal,none⟩) Aq none (execOp (⟨fn,tmps,.inRegion ops (i::rest)::k,[],.run,.normal,none⟩:aJ).eval o) u:=λK Aq u=>by
       rw[<-an9 K];rw[hoi]at hw;simp only[G,zx,stepG,stepG.exec,bT,hoi];rw[ay hw];exact U2 (λc h=>by unfold FY at Em;rw[h,gW]at Em;cases Em.2) (by simp only[Frame.oper?,hoi])
      obtain⟨vY,hlf⟩:=Zn hF (ρ:=(⟨fn,tmps,.inRegion ops (i::rest)::k,[],.run,.normal,none⟩:aJ).eval) (λ_=>rfl) (λ_=>rfl) hS Em;have Zj:∀{x:aU×Nat}{v v':ah}{es rZ:aH}{n:Next},SN S x o.op=true->(execOp (⟨fn,tmps,.inRegion ops (i::rest)::k,[],.run,.normal,none⟩:aJ).eval o).runT P v es=(.ok n v',rZ)->∃u,n=.value u/\(u=undef\/∃fs cs,u=.func (.func x.1) fs cs/\fs.size+cs.size=x.2):=λh hr=>afJ (λ_=>rfl) hS h hr
      have fin:∀u,(⟨fn,tmps,.inRegion ops (i::rest)::k,[],.run,.normal,none⟩:aJ).finish u=⟨fn,ahq o.dst tmps u,.inRegion ops rest::k,[],.run,.normal,none⟩:=λu=>by simp only[Frame.finish,hoi,gK];rfl
      generalize execOp (⟨fn,tmps,.inRegion ops (i::rest)::k,[],.run,.normal,none⟩:aJ).eval o=sem at eA vY hlf Zj;have eA0:=eA ⟨[],none,[]⟩ cs v;rw[BZ rfl rfl]at eA0;cases sW:sem.runT P v #[]with
      |mk r es=>
       cases r with
       |halt h v'=>
        have hh:=vY.Tu w v #[] h v' es hs sW;cases h with
        |panic u=>
         exact .inr (.inl ⟨_,_,_,mX⟩)
        |stuck s=>exact .inl ⟨_,_,_,mX⟩
        |unsupported u=>
         cases u with
         |initOrder b=>exact hh.elim
         |_=>exact .inl ⟨_,_,_,mX⟩
        |_=>exact hh.elim
       |ok x v'=>
        obtain⟨w',Fp,xU,hsz,hev⟩:=vY.WM w v #[] x v' es hs sW;obtain⟨Tn,ht2,ht3⟩:=vY.tape v #[] x v' es hs.nv sW
        have eAτ:∀τ:Nat->Question->Nat,stepG P true (G ⟨fn,tmps,.inRegion ops (i::rest)::k,[],.run,.normal,none⟩ cs) {v with tape:=τ}=stepG.apply P true ⟨fn,tmps,.inRegion ops (i::rest)::k,[],.run,.normal,none⟩ cs none sem {v with tape:=τ}:=λτ=>by have:=eA ⟨[],none,[]⟩ cs {v with tape:=τ};rwa[BZ rfl rfl]at this
        have XV:w.heap.size<=w'.heap.size:=awG;have aeX:OM X w' (seen P fn es):=λe he=>(hev e (mem_seen he)).resolve_left ax
        rcases uN sem hlf v #[] x v' es sW with⟨u,rfl⟩|rfl|⟨f1,avg,hf1,has,rfl⟩
        .refine .inr (.inr ⟨_,_,seen P fn es,w',mY,⟨Tn,ht2,λτ hτ=>mW⟩,xU,XV,aeX,
          .here (f':=(⟨fn,tmps,.inRegion ops (i::rest)::k,[],.run,.normal,none⟩:aJ).finish u) rfl axI (.inl rfl) λK Aq _=>?_⟩)
         exact ayt
        .refine .inr (.inr ⟨_,_,seen P fn es,w',mY,⟨Tn,ht2,λτ hτ=>mW⟩,xU,XV,aeX,
          .here (f':=(⟨fn,tmps,.inRegion ops (i::rest)::k,[],.run,.normal,none⟩:aJ).finish undef) rfl axG (.inl rfl) λK Aq _=>?_⟩)
         exact ayt
        .obtain⟨fn1,c1,S1,g1,g2,g3,g4,g5⟩:=hf1
         refine .inr (.inr ⟨_,_,seen P fn es,w',mY,⟨Tn,ht2,λτ hτ=>mW⟩,xU,XV,aeX,
          .call (e:=Frame.enter P f1 avg .normal) rfl ⟨⟨fn1,g1⟩,rfl,rfl,rfl,S1,λx hx=>?_,GM.enter has g5⟩ rfl ⟨ax,λu=>axH⟩ λK Aq=>?_⟩)
         .exact ayP
         .rw[eA];simp only[stepG.apply,aX,Fp,GStep.after];rfl
  |_=>cases F7
def acw(E:Ext)(cs:aP):aP->aP
 |[]=>cs
 |[b]=>zx E b::cs
 |c::d::r=>c::acw E cs (d::r)
def YN(E:Ext)(cs:aP)(f:aJ)(r:aP):aG:=
 match r with
 |[]=>G (zx E f) cs
 |c::r=>G f (acw E cs (c::r))
theorem ano{c:aJ}(hT:JB P F c)(hne:c.todo≠[])(E:Ext)(v:ai):(zx E c).finish v=zx E (c.finish v):=by
 obtain⟨fn,tmps,todo,defers,mode,kind,round⟩:=c;obtain⟨h1,hk,hd,hr,S,ht,_⟩:=hT;dsimp only at h1 hk hd hr ht hne;subst hk hd hr;cases todo with
 |nil=>exact absurd rfl hne
 |cons it k=>
  have F7:=ht it ax;cases it with
  |inRegion ops is=>
   cases is with
   |nil=>rfl
   |cons i rest=>rfl
  |code c=>rfl
  |inBlock id=>rfl
  |inLoop c=>rfl
  |_=>cases F7
theorem akB{f:aJ}(hT:JB P F f)(hm:f.mode=.run)(ht:Ends f.todo)(cs:aP)(u:ah):stepG P true (G f cs) u=.go (G {f with mode:=.returning} cs) u #[]:=by obtain⟨fn,tmps,todo,defers,mode,kind,round⟩:=f;have hk:=hT.kind;have hd:=hT.defers;have hr:=hT.round;dsimp only at hk hd hr ht hm;subst hk hd hr hm;rcases ht with rfl|⟨k,rfl⟩<;>rfl
variable (P F X Y D Stop)in
structure SgD(E:Ext)(cs:aP)(fn:aU)(Q:Exit->Act->ah->Prop)(s:Sg):Prop where
 tf:JB P F s.f
 mode:s.f.mode=.run\/s.f.mode=.returning
 stack:Stack P F s.r
 WM:qQ X Y s.w s.u
 law:∀τ:Nat->Question->Nat,(∀p,p<s.u.drawn->τ p=s.u.tape p)->∃n a' v',GR P n s.f (s.r++[f0]) {s.u with tape:=τ} ((base fn).at a' []) [f0] v'/\Q .normal a' v'
 no:¬r_ P D Stop (YN E cs s.f s.r) s.w
theorem aas{K:Ext}{cs:aP}{fn:aU}{Q:Exit->Act->ah->Prop}(hK:∀a' v' w',Q .normal a' v'->qQ X Y w' v'->r_ P D Stop (G (zx K ((base fn).at a' [])) cs) w'){s:Sg}(hi:SgD P F X Y D Stop K cs fn Q s){τ:Nat->Question->Nat}{a':Act}{v':ah}
  (h:GR P 0 s.f (s.r++[f0]) {s.u with tape:=τ} ((base fn).at a' []) [f0] v') (hq:Q .normal a' v'):False:=by
 obtain⟨h1,h2,h3⟩:=zG h
 have hr:s.r=[]:=by exact ayM
 apply hi.no;have:YN K cs s.f s.r=G (zx K ((base fn).at a' [])) cs:=awH;exact azQ
theorem VS(hF:xY P F)(hD:uU X D){K:Ext}{cs:aP}{fn:aU}{Q:Exit->Act->ah->Prop}(hK:∀a' v' w',Q .normal a' v'->qQ X Y w' v'->r_ P D Stop (G (zx K ((base fn).at a' [])) cs) w'){s:Sg}
  (hi:SgD P F X Y D Stop K cs fn Q s):∃s',SgD P F X Y D Stop K cs fn Q s'/\Dy P s s':=by
 have uw:(YN K cs s.f s.r).status=.running:=by cases s.r<;>rfl
 obtain⟨d,hd⟩:∃d,∀g' w' es,stepG P true (YN K cs s.f s.r) (s.w.at d)=.go g' w' es->D s.w.heap.size w' es->¬r_ P D Stop g' w':=by
  refine jG λRt=>hi.no (.next uw λd=>?_)
  exact ay0
 let τ₁:Nat->Question->Nat:=λp q=>if p<s.u.drawn then s.u.tape p q else s.w.tape (d+(p-s.u.drawn)) q
 have hs:xZ X Y (s.w.at d) {s.u with tape:=τ₁}:=hi.WM.re d s.u.drawn τ₁ λi q=>by
  show s.w.tape (d+i) q=if s.u.drawn+i<s.u.drawn then _ else _
  exact ayI
 have hag:∀p,p<s.u.drawn->τ₁ p=s.u.tape p:=λp hp=>by
  funext q
  exact ayN
 obtain⟨n,a',v',hn,hq⟩:=hi.law τ₁ hag;cases n with
 |zero=>exact(aas hK hi hn hq).elim
 |succ n=>
  have mk:∀(f':aJ)(r':aP)(u₂ w₂:ah)(es:aH),JB P F f'->(f'.mode=.run\/f'.mode=.returning)->Stack P F r'->xZ X Y w₂ u₂->Tp P (G s.f (s.r++[f0])) {s.u with tape:=τ₁} (G f' (r'++[f0])) u₂ es->
    stepG P true (YN K cs s.f s.r) (s.w.at d)=.go (YN K cs f' r') w₂ es->s.w.heap.size<=w₂.heap.size->OM X w₂ es->∃s',SgD P F X Y D Stop K cs fn Q s'/\Dy P s s':=λf' r' u₂ w₂ es h1 h2 h3 h4 h5 h6 h8 h7=>by
   obtain⟨t1,t2,t3⟩:=h5;dsimp only at t1 t2 t3;refine⟨⟨f',r',u₂,w₂⟩,⟨h1,h2,h3,h4.t,λτ hτ=>?_,hd _ _ _ h6 (hD _ _ _ h8 h7)⟩,t2,λp hp=>awx,λτ hτ=>⟨es,t3 τ λp EE CE=>awD⟩⟩;dsimp only at hτ;obtain⟨n,a',v',hn,hq⟩:=hi.law τ λp hp=>awF
   cases n with
   |zero=>exact(aas hK hi hn hq).elim
   |succ n=>exact⟨n,a',v',xw (t3 τ λp _ CE=>awE) hn,hq⟩
  rcases hi.mode with hm|hm
  .by_cases Rw:s.r=[]/\Ends s.f.todo
   .obtain⟨hr,ht⟩:=Rw;rw[hr]at hn;have e:=akB hi.tf hm ht ([]++[f0]) {s.u with tape:=τ₁};have h2:=xw e hn;cases n with
    |zero=>
     obtain⟨h3,_⟩:=zG h2;have:=bI Frame.mode h3;cases this
    |succ n=>
     rcases RV (c:=f0) (r:=[]) (f:={s.f with mode:=.returning}) (F:=F) ⟨hi.tf.fn,hi.tf.kind,hi.tf.defers,hi.tf.round,hi.tf.todo⟩ rfl hs with⟨o,MB,rZ,he⟩|⟨y,MB,rZ,w',he,_⟩
     .exact(yA he h2).elim
     .exact absurd (xw he h2) (U4 n _ _ v')
   .rcases ap6 (cs:=s.r++[f0]) hF hi.tf hm hs with⟨o,MB,rZ,he⟩|⟨ch,MB,rZ,he⟩|⟨g',MB,rZ,w',he,htp,xU,hsz,hev,aiW⟩
    .exact ayk
    .exact aze
    .cases aiW with
     |@here f' hg XT WC hB=>
      subst hg;refine mk f' s.r MB w' rZ XT WC hi.stack xU htp ?_ hsz hev;cases hr:s.r with
      |nil=>exact hB K cs λht=>absurd ⟨hr,ht⟩ Rw
      |cons c r=>
       have:=hB ⟨[],none,[]⟩ (acw K cs (c::r)) (λ_=>rfl);rw[BZ hi.tf.round hi.tf.defers,BZ XT.round XT.defers]at this;exact this
     |@call e hg hTe hme hne hB=>
      subst hg;refine mk e (s.f::s.r) MB w' rZ hTe (.inl hme) ⟨⟨hi.tf,hm,hne.1,QD hi.tf hm hne⟩,hi.stack⟩ xU htp ?_ hsz hev;cases hr:s.r with
      |nil=>exact hB K cs
      |cons c r=>
       have:=hB ⟨[],none,[]⟩ (acw K cs (c::r));rw[BZ hi.tf.round hi.tf.defers]at this;exact this
  .cases hr:s.r with
   |nil=>
    rw[hr]at hn;rcases RV (c:=f0) (r:=[]) (F:=F) hi.tf hm hs with⟨o,MB,rZ,he⟩|⟨y,MB,rZ,w',he,_⟩
    .exact ayk
    .exact absurd (xw he hn) (U4 n _ _ v')
   |cons c r=>
    have hS:=hi.stack;rw[hr]at hn hS mk;rcases RV (c:=c) (r:=r++[f0]) (F:=F) hi.tf hm hs with⟨o,MB,rZ,he⟩|⟨y,MB,rZ,w',he,htp,xU,hsz,hev,hB⟩
    .exact ayk
    .obtain⟨hTc,hmc,DR⟩:=hS.1.2.2.2 y;refine mk (c.finish y) r MB w' rZ hTc (.inl hmc) hS.2 xU htp ?_ hsz hev;cases r with
     |nil=>
      have:=hB (zx K c) cs;rw[ano hS.1.1 hS.1.2.2.1 K]at this;exact this
     |cons d r=>exact hB c (acw K cs (d::r))
theorem atJ(hF:xY P F)(hD:uU X D){c:Code}(hc:Hz P F c=true){Q:Exit->Act->ah->Prop}{a:Act}{v:ah}(h:∀τ d,c.wp P Q a {v with tape:=τ,drawn:=d})(hQ:∀e a' v',Q e a' v'->e=.normal/\a'.defers=[])(ha:a.defers=[])
  {fn:aU} (hf:∃G9,P.funcs[fn]?=some G9) {w:ah} (hs:qQ X Y w v) {K:Ext} {cs:aP} (hK:∀a' v' w',Q .normal a' v'->qQ X Y w' v'->r_ P D Stop (G (zx K ((base fn).at a' [])) cs) w'):r_ P D Stop (G (zx K ((base fn).at a [.code c])) cs) w:=by
 refine jG λRt=>?_
 have start:SgD P F X Y D Stop K cs fn Q ⟨(base fn).at a [.code c],[],{v with drawn:=0},w⟩:=by exact azd
 let nx:{s//SgD P F X Y D Stop K cs fn Q s}->{s//SgD P F X Y D Stop K cs fn Q s}:=λs=>⟨(VS hF hD hK s.2).choose,(VS hF hD hK s.2).choose_spec.1⟩
 have nxs:∀s,Dy P s.1 (nx s).1:=λs=>(VS hF hD hK s.2).choose_spec.2
 let q:Nat->{s//SgD P F X Y D Stop K cs fn Q s}:=λn=>Nat.rec ⟨_,start⟩ (λ_ s=>nx s) n
 have qs:∀n,Dy P (q n).1 (q (n+1)).1:=λn=>nxs (q n)
 have mono:∀n m,n<=m->(q n).1.u.drawn<=(q m).1.u.drawn/\∀p,p<(q n).1.u.drawn->(q m).1.u.tape p=(q n).1.u.tape p:=by
  intro n m Tm
  induction m with
  |zero=>
   obtain rfl:n=0:=ag;exact⟨az _,λ_ _=>rfl⟩
  |succ m ih=>
   rcases bJ n (m+1)with qK|Ws
   .exact ayR
   .exact ayC
 have dec:∀p,Decidable (∃n,p<(q n).1.u.drawn):=λp=>Classical.propDecidable _
 let τ:Nat->Question->Nat:=λp=>if h:∃n,p<(q n).1.u.drawn then(q h.choose).1.u.tape p else λ_=>0
 have agree:∀n p,p<(q n).1.u.drawn->τ p=(q n).1.u.tape p:=λn p hp=>by
  have hex:∃n,p<(q n).1.u.drawn:=⟨n,hp⟩;show(if h:∃n,p<(q n).1.u.drawn then(q h.choose).1.u.tape p else λ_=>0)=_;rw[lI hex];have hc:=hex.choose_spec;rcases avR n hex.choose with hle|hle
  .exact(mono n _ hle).2 p hp
  .exact ayL
 have never:∀(m i:Nat)(a':Act)(v':ah),GR P m (q i).1.f ((q i).1.r++[f0]) {(q i).1.u with tape:=τ} ((base fn).at a' []) [f0] v'->Q .normal a' v'->False:=by
  intro m
  induction m with
  |zero=>exact λi a' v' h hq=>aas hK (q i).2 h hq
  |succ m ih=>
   intro i a' v' h hq;obtain⟨es,he⟩:=(qs i).2.2 τ λp _ hp=>agree (i+1) p hp
   exact ih (i+1) a' v' (xw he h) hq
 obtain⟨n,a',v',hn,hq⟩:=(q 0).2.law τ λp hp=>agree 0 p hp
 exact never n 0 a' v' hn hq
def Dn(ro:Option Nat)(ds:List Deferred)(f:aU)(T:aB)(k:b_):aJ:={fn:=f,tmps:=T,todo:=k,defers:=ds,mode:=.run,kind:=.normal,roundOf:=ro}
def rC(P:aN)(X:Nat->Prop)(Y:Nat->aV)(D:Nat->ah->aH->Prop)(Stop:aG->ah->Prop)(ro:Option Nat)(ds:List Deferred)(f:aU)(cs:aP)(k:b_)(T:aB)(v:ah):Prop:=
 ∀w,qQ X Y w v->r_ P D Stop (G (Dn ro ds f T k) cs) w
theorem agw(hF:xY P F)(hD:uU X D){ro:Option Nat}{ds:List Deferred}{f:aU}{cs:aP}{k:b_}{c:Code}(hc:Hz P F c=true){T:aB}{v:ah}(hf:∃fn,P.funcs[f]?=some fn)
  (h:∀τ d,c.wp P (λe a' v'=>e=.normal/\a'.defers=[]/\rC P X Y D Stop ro ds f cs k a'.tmps v') ⟨T,[]⟩ {v with tape:=τ,drawn:=d}):rC P X Y D Stop ro ds f cs (.code c::k) T v:=
 λ_ hs=>atJ (K:=⟨k,ro,ds⟩) (fn:=f) (a:=⟨T,[]⟩) hF hD hc h (λ_ _ _ x=>⟨x.1,x.2.1⟩) rfl hf hs λ_ _ w' hq xU=>hq.2.2 w' xU
