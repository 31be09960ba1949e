import Derived.Test.YtlghjjennhpjeaaGreatDoorCoR
set_option maxHeartbeats 4000000
set_option maxRecDepth 100000
namespace Go.Proofs.Y
open Go.Proofs.Tryz
open Go.Conc Go.ConcN Go.RowKit Go.Gh Go.Conc.Lib Go.ConcR.Gen Go.ConcN.Gen
open Go.ConcR (Payload)
def TS(E:Env)(Wg k j:Nat)(T:aH):Prop:=
 ∃v0 v1 v2 v3 v4 v5 v6 v8 v9 VP Xf S9 S_ Tc PS PU v20 v21 v22 TK v24 TL v26 ZZ v28 v29 v30 v31 v32 v33 v34 v35 v36 v37 v38 v39 v40 v41 v42 v43 v44 v45 v46 v50 v51 v52 v53 v54 v55 v56 v57 v58 v59 v60 v61 v62 v63 v64 v65 v66 v67 v68:ai,T=#[v0,v1,v2,v3,v4,v5,v6,.pointer (some ⟨E.bd,0,none⟩),v8,v9,.pointer (some ⟨E.bv,0,none⟩),.pointer (some ⟨E.ba,0,none⟩),.pointer (some ⟨Wg,0,none⟩),VP,Xf,S9,S_,Tc,PS,PU,v20,v21,v22,TK,v24,TL,v26,ZZ,v28,v29,v30,v31,v32,v33,v34,v35,v36,v37,v38,v39,v40,v41,v42,v43,v44,v45,v46,.slice (some ⟨E.bp,E.op,none⟩) k E.cp,.int .i64 ((k:Nat):Int),.int .i64 ((j:Nat):Int),v50,v51,v52,v53,v54,v55,v56,v57,v58,v59,v60,v61,v62,v63,v64,v65,v66,v67,v68]
def TS2(E:Env)(Wg k j bj bc:Nat)(T:aH):Prop:=
 ∃v0 v1 v2 v3 v4 v5 v6 v8 v9 S9 S_ Tc PS PU v20 v21 v22 TK v24 TL v26 ZZ v28 v29 v30 v31 v32 v33 v34 v35 v36 v37 v38 v39 v40 v41 v42 v43 v44 v45 v46 v50 v51 v52 v53 v54 v55 v56 v58 v59 v60 v61 v62 v63 v64 v65 v66 v67 v68:ai,T=#[v0,v1,v2,v3,v4,v5,v6,.pointer (some ⟨E.bd,0,none⟩),v8,v9,.pointer (some ⟨E.bv,0,none⟩),.pointer (some ⟨E.ba,0,none⟩),.pointer (some ⟨Wg,0,none⟩),.pointer (some ⟨bj,0,none⟩),.pointer (some ⟨bc,0,none⟩),S9,S_,Tc,PS,PU,v20,v21,v22,TK,v24,TL,v26,ZZ,v28,v29,v30,v31,v32,v33,v34,v35,v36,v37,v38,v39,v40,v41,v42,v43,v44,v45,v46,.slice (some ⟨E.bp,E.op,none⟩) k E.cp,.int .i64 ((k:Nat):Int),.int .i64 ((j:Nat):Int),v50,v51,v52,v53,v54,v55,v56,.bool (decide (((E.px j:Nat):Int)=((j:Nat):Int))),v58,v59,v60,v61,v62,v63,v64,v65,v66,v67,v68]
def Ee:Code->Code| .seq x _=>x|c=>c
def yA:Code->Code| .seq _ y=>y|c=>c
def cIn:Code->Code| .block _ c=>c| .loop c=>c|c=>c
def Gt:Code->Array Oper| .region _ o _=>o|_=>#[]
def ank:Code->Code| .cond _ x _=>x|c=>c
noncomputable def zB:Code:=yA (yA (yA (yA (yA (yA (yA (yA (Tryz.f52.body.getD .skip))))))))
noncomputable def vG:Code:=cIn (cIn (yA (Ee zB)))
noncomputable def Sl:Code:=cIn (Ee (yA (yA vG)))
noncomputable def q13:{x:Array Oper//x=Gt (Ee (Ee zB))}:=⟨_,by(simp only[zB,Ee,yA,Gt,Tryz.f52,bf];rfl)⟩
noncomputable def o13:Array Oper:=q13.1
noncomputable def q14:{x:Array Oper//x=Gt (Ee vG)}:=⟨_,by(simp only[vG,zB,Ee,yA,cIn,Gt,Tryz.f52,bf];rfl)⟩
noncomputable def o14:Array Oper:=q14.1
noncomputable def q15:{x:Array Oper//x=Gt (Ee Sl)}:=⟨_,by(simp only[Sl,vG,zB,Ee,yA,cIn,Gt,Tryz.f52,bf];rfl)⟩
noncomputable def o15:Array Oper:=q15.1
noncomputable def q16:{x:Array Oper//x=Gt (Ee (Ee (yA Sl)))}:=⟨_,by(simp only[Sl,vG,zB,Ee,yA,cIn,Gt,Tryz.f52,bf];rfl)⟩
noncomputable def o16:Array Oper:=q16.1
noncomputable def q17:{x:Array Oper//x=Gt (Ee (ank (yA (Ee (yA Sl)))))}:=⟨_,by(simp only[Sl,vG,zB,Ee,yA,cIn,Gt,ank,Tryz.f52,bf];rfl)⟩
noncomputable def o17:Array Oper:=q17.1
noncomputable def q18:{x:Array Oper//x=Gt (Ee (yA (yA Sl)))}:=⟨_,by(simp only[Sl,vG,zB,Ee,yA,cIn,Gt,Tryz.f52,bf];rfl)⟩
noncomputable def o18:Array Oper:=q18.1
noncomputable def q19:{x:Array Oper//x=Gt (yA (yA (yA Sl)))}:=⟨_,by(simp only[Sl,vG,zB,Ee,yA,cIn,Gt,Tryz.f52,bf];rfl)⟩
noncomputable def o19:Array Oper:=q19.1
noncomputable def q20:{x:Array Oper//x=Gt (yA (yA (yA vG)))}:=⟨_,by(simp only[vG,zB,Ee,yA,cIn,Gt,Tryz.f52,bf];rfl)⟩
noncomputable def o20:Array Oper:=q20.1
noncomputable def q21:{x:Array Oper//x=Gt (Ee (yA zB))}:=⟨_,by(simp only[zB,Ee,yA,Gt,Tryz.f52,bf];rfl)⟩
noncomputable def o21:Array Oper:=q21.1
noncomputable def q22:{x:Array Oper//x=Gt (Ee (yA (yA zB)))}:=⟨_,by(simp only[zB,Ee,yA,Gt,Tryz.f52,bf];rfl)⟩
noncomputable def o22:Array Oper:=q22.1
noncomputable def aeM:Code:=.seq (.region 22 o22 false) .ret
noncomputable def Js:Code:=.seq (.region 21 o21 false) aeM
noncomputable def afT:Code:=.cond (.tmp 57) (.seq (.region 17 o17 true) (.exit 3)) .skip
noncomputable def rGo:Code:=.seq (.region 18 o18 false) (.region 19 o19 false)
theorem aid:zB=.seq (.seq (.region 13 o13 false) (.block 2 (.loop vG))) Js:=ak
theorem aaA:vG=.seq (.region 14 o14 false) (.seq (.cond (.tmp 50) .skip (.exit 2)) (.seq (.block 3 Sl) (.region 20 o20 false))):=ak
theorem als:Sl=.seq (.region 15 o15 false) (.seq (.seq (.region 16 o16 false) afT) rGo):=ak
theorem n14:o14.size=1:=ak
theorem n15:o15.size=7:=ak
theorem n16:o16.size=4:=ak
theorem n18:o18.size=1:=ak
theorem n19:o19.size=2:=ak
theorem n20:o20.size=2:=ak
theorem n21:o21.size=1:=ak
section
variable [Payload][qR]{main:Bool}{Wg C k B L:Nat}{E:Env}
def KR(Wg C k B L:Nat)(E:Env)(cs:aT)(ids:aC)(g:aI)(w:ah):Prop:=
 ∃T s0 j ops,g=G ((base 52).at ⟨T,[]⟩ (.inRegion ops []::[.code aeM])) cs/\TS E Wg k j T/\SF Wg C k B L E s0 k w/\∀x,x∈ids↔E.Dp k x
theorem KR.rely{cs:aT}{ids:aC}{g:aI}{w w₁:ah}(h:KR Wg C k B L E cs ids g w)(r:Ro Wg C k B (λi=>¬E.Dp k i) w w₁):KR Wg C k B L E cs ids g w₁:=by exact aya
def StS(Wg C k B L:Nat)(E:Env)(cs:aT):Nat->aC->aI->ah->Prop
 |0,ids=>alu prog link.tWg Wg (KR Wg C k B L E cs) ids
 |r+1,ids=>aeN prog link.tWg Wg C k B (E.Dp k) (Xo C L (E.res L)) (Sp prog link.tWg Wg C k B (E.Dp k) (Xo C L (E.res L)) (KR Wg C k B L E cs) r) ids
theorem aie{cs:aT}(r:Nat)(ids:aC)(g:aI)(w:ah):Sp prog link.tWg Wg C k B (E.Dp k) (Xo C L (E.res L)) (KR Wg C k B L E cs) r ids g w↔∃m,Goes prog true (Ro Wg C k B (λi=>¬E.Dp k i)) (Dg Wg C k B (λi=>¬E.Dp k i)) (StS Wg C k B L E cs r ids) m g w:=by cases r<;>exact Iff.rfl
theorem an6{cs:aT}:∃m,∀(T:aH)(w:ah)(ids:aC)(s0:Nat),TS E Wg k k T->SF Wg C k B L E s0 k w->(∀x,x∈ids↔E.Dp k x)->
  Goes prog true (Ro Wg C k B (λi=>¬E.Dp k i)) (Dg Wg C k B (λi=>¬E.Dp k i)) (StS Wg C k B L E cs 0 ids) m (G ((base 52).at ⟨T,[]⟩ (.code vG::.inLoop vG::.inBlock 2::[.code Js])) cs) w:=by
 co_apply Exists.intro;rintro T w ids s0 ⟨v0,v1,v2,v3,v4,v5,v6,v8,v9,VP,Xf,S9,S_,Tc,PS,PU,v20,v21,v22,TK,v24,TL,v26,ZZ,v28,v29,v30,v31,v32,v33,v34,v35,v36,v37,v38,v39,v40,v41,v42,v43,v44,v45,v46,v50,v51,v52,v53,v54,v55,v56,v57,v58,v59,v60,v61,v62,v63,v64,v65,v66,v67,v68,rfl⟩ hF CX;have E5:¬((k:Int)<(k:Int)):=ag;generalize hkk:Item.inLoop vG::[Item.inBlock 2,Item.code Js]=kk;rw[aaA]
 (co_apply aQ rfl;intro _ qI;replace hF:=SF.rely hF qI;clear qI;rw[aX];simp only[bu];refine⟨a_ qj _,?_⟩)
 (co_apply aQ rfl;intro _ qI;replace hF:=SF.rely hF qI;clear qI;rw[dW,n14];simp only[bu,List.range,List.range.loop];refine⟨a_ qj _,?_⟩;simp only[o14,q14])
 (co_apply aQ rfl;intro _ qI;replace hF:=SF.rely hF qI;clear qI
  refine goes_oper_k rfl rfl aB (λKq uI=>?_)
  (skip)
  go_simp
  try(unfold stored;go_simp)
  refine uI _ _ ⟨?_,?_⟩
  ·(co_quiet qj)
  clear uI Kq
  try walk_nrm)
 (co_apply aQ rfl;intro _ qI;replace hF:=SF.rely hF qI;clear qI;rw[bg];simp only[bu];refine⟨a_ qj _,?_⟩)
 (co_apply aQ rfl;intro _ qI;replace hF:=SF.rely hF qI;clear qI;rw[aX];simp only[bu];refine⟨a_ qj _,?_⟩)
 (co_apply aQ rfl;intro _ qI;replace hF:=SF.rely hF qI;clear qI)
 rw[lJ (t:=false) rfl];simp only[bu,dm,bU];refine⟨a_ qj _,?_⟩
 (co_apply aQ rfl;intro _ qI;replace hF:=SF.rely hF qI;clear qI)
 subst hkk;refine goes_exit rfl ?_;refine⟨a_ qj _,?_⟩;unfold Js
 (co_apply aQ rfl;intro _ qI;replace hF:=SF.rely hF qI;clear qI;rw[aX];simp only[bu];refine⟨a_ qj _,?_⟩)
 (co_apply aQ rfl;intro _ qI;replace hF:=SF.rely hF qI;clear qI;rw[dW,n21];simp only[bu,List.range,List.range.loop];refine⟨a_ qj _,?_⟩;simp only[o21,q21])
 (co_apply aQ rfl;intro _ qI;replace hF:=SF.rely hF qI;clear qI)
 refine goes_call rfl rfl aB rfl Nc.f_wait (nm_wait link) rfl ⟨a_ qj _,?_⟩
 walk_nrmf waitFn
 refine dC (n:=0) λw₁ hR=>?_
 replace hF:=hF.rely hR;clear hR;refine⟨rfl,_,aif Nc,_,s0,k,_,rfl,?_,hF,CX⟩;walk_nrm;exact⟨_,_,_,_,_,_,_,_,_,_,_,_,_,_,_,_,_,_,_,_,_,_,_,_,_,_,_,_,_,_,_,_,_,_,_,_,_,_,_,_,_,_,_,_,_,_,_,_,_,_,_,_,_,_,_,_,_,_,_,_,_,_,rfl⟩
theorem aih(hE:QV E k L){cs:aT}{j:Nat}(hj:j<k){c:Um}(hcj:E.cs[j]?=some c)(m:Nat):∃n,∀(T:aH)(w:ah)(s0:Nat)(Stop:aI->ah->Prop),TS E Wg k j T->SF Wg C k B L E s0 j w->
  (∀T' w' s1 bj bc,TS2 E Wg k j bj bc T'->SG Wg C k B L E s1 j bj bc (.int .i64 ((j:Nat):Int)) (.int .i64 ((E.px j:Nat):Int)) (.slice c.bs L c.co) w'->
   Goes prog true (Ro Wg C k B (λi=>¬E.Dp k i)) (Dg Wg C k B (λi=>¬E.Dp k i)) Stop m (G ((base 52).at ⟨T',[]⟩ (.code afT::.code rGo::.inBlock 3::.code (.region 20 o20 false)::.inLoop vG::.inBlock 2::[.code Js])) cs) w')->
  Goes prog true (Ro Wg C k B (λi=>¬E.Dp k i)) (Dg Wg C k B (λi=>¬E.Dp k i)) Stop n (G ((base 52).at ⟨T,[]⟩ (.code vG::.inLoop vG::.inBlock 2::[.code Js])) cs) w:=by
 co_apply Exists.intro;rintro T w s0 Stop ⟨v0,v1,v2,v3,v4,v5,v6,v8,v9,VP,Xf,S9,S_,Tc,PS,PU,v20,v21,v22,TK,v24,TL,v26,ZZ,v28,v29,v30,v31,v32,v33,v34,v35,v36,v37,v38,v39,v40,v41,v42,v43,v44,v45,v46,v50,v51,v52,v53,v54,v55,v56,v57,v58,v59,v60,v61,v62,v63,v64,v65,v66,v67,v68,rfl⟩ hF acy;replace hF:=hF.base;generalize Ai:w.heap.size=s1 at hF;clear Ai s0;have hjI:(j:Int)<(k:Int):=ag;have NU:=hE.k1;have hpx:=hE.pb j hj;generalize Item.inLoop vG::[Item.inBlock 2,Item.code Js]=kk at acy⊢;rw[aaA]
 (co_apply aQ rfl;intro _ qI;replace hF:=SF.rely hF qI;clear qI;rw[aX];simp only[bu];refine⟨a_ qj _,?_⟩)
 (co_apply aQ rfl;intro _ qI;replace hF:=SF.rely hF qI;clear qI;rw[dW,n14];simp only[bu,List.range,List.range.loop];refine⟨a_ qj _,?_⟩;simp only[o14,q14])
 (co_apply aQ rfl;intro _ qI;replace hF:=SF.rely hF qI;clear qI
  refine goes_oper_k rfl rfl aB (λKq uI=>?_)
  (skip)
  go_simp
  try(unfold stored;go_simp)
  refine uI _ _ ⟨?_,?_⟩
  ·(co_quiet qj)
  clear uI Kq
  try walk_nrm)
 (co_apply aQ rfl;intro _ qI;replace hF:=SF.rely hF qI;clear qI;rw[bg];simp only[bu];refine⟨a_ qj _,?_⟩)
 (co_apply aQ rfl;intro _ qI;replace hF:=SF.rely hF qI;clear qI;rw[aX];simp only[bu];refine⟨a_ qj _,?_⟩)
 (co_apply aQ rfl;intro _ qI;replace hF:=SF.rely hF qI;clear qI)
 rw[lJ (t:=true) rfl];simp only[bu,aY];refine⟨a_ qj _,?_⟩
 (co_apply aQ rfl;intro _ qI;replace hF:=SF.rely hF qI;clear qI;rw[fE];simp only[bu];refine⟨a_ qj _,?_⟩)
 (co_apply aQ rfl;intro _ qI;replace hF:=SF.rely hF qI;clear qI;rw[aX];simp only[bu];refine⟨a_ qj _,?_⟩)
 (co_apply aQ rfl;intro _ qI;replace hF:=SF.rely hF qI;clear qI;rw[lK];simp only[bu];refine⟨a_ qj _,?_⟩)
 rw[als]
 (co_apply aQ rfl;intro _ qI;replace hF:=SF.rely hF qI;clear qI;rw[aX];simp only[bu];refine⟨a_ qj _,?_⟩)
 (co_apply aQ rfl;intro _ qI;replace hF:=SF.rely hF qI;clear qI;rw[dW,n15];simp only[bu,List.range,List.range.loop];refine⟨a_ qj _,?_⟩;simp only[o15,q15])
 (co_apply aQ rfl;intro _ qI;replace hF:=SF.rely hF qI;clear qI
  refine goes_oper_k rfl rfl aB (λKq uI=>?_)
  (skip)
  go_simp
  try(unfold stored;go_simp)
  refine uI _ _ ⟨?_,?_⟩
  ·(co_quiet qj)
  clear uI Kq
  try walk_nrm)
 (co_apply aQ rfl;intro _ qI;replace hF:=SF.rely hF qI;clear qI
  refine goes_oper_k rfl rfl aB (λKq uI=>?_)
  (skip)
  go_simp
  try(unfold stored;go_simp)
  refine uI _ _ ⟨?_,?_⟩
  ·(co_still qj)
  clear uI Kq
  try walk_nrm)
 (co_apply aQ rfl;intro _ qI;replace hF:=SF.rely hF qI;clear qI)
 refine goes_oper_k rfl rfl aB (λK hK=>?_);have h0:=hF.low.hp0 j hj;have h1:=hF.low.QI j c hcj;go_simp;refine hK _ _ ⟨?_,?_⟩
 .refine tH (b:=E.bp) (.inr hF.low.lp) (by have:=hF.low.lp.1;have:=hF.bs.hB;omega) ?_;intro e he;have hm:=mem_listed he;simp[go_sem, *]at hm;rcases hm with rfl|rfl<;>exact⟨_,rfl,rfl⟩
 clear hK K h0 h1
 try walk_nrm
 (co_apply aQ rfl;intro _ qI;replace hF:=SF.rely hF qI;clear qI
  refine goes_oper_k rfl rfl aB (λKq uI=>?_)
  (skip)
  go_simp
  try(unfold stored;go_simp)
  refine uI _ _ ⟨?_,?_⟩
  ·(rw[listed_nil lF];exact zx hF.bs.hC _ rfl)
  clear uI Kq
  try walk_nrm)
 replace hF:=hF.aes (.int .i64 0);generalize hN:Array.size (World.heap _)=bj at hF⊢;clear hN
 (co_apply aQ rfl;intro _ qI;replace hF:=SJ.rely hF qI;clear qI
  refine goes_oper_k rfl rfl aB (λKq uI=>?_)
  (skip)
  go_simp
  try(unfold stored;go_simp)
  refine uI _ _ ⟨?_,?_⟩
  ·(rw[listed_nil lF];exact zx hF.sf.bs.hC _ rfl)
  clear uI Kq
  try walk_nrm)
 replace hF:=hF.apz (.int .i64 0) (.slice none 0 0);generalize hN:Array.size (World.heap _)=bc at hF⊢;clear hN
 (co_apply aQ rfl;intro _ qI;replace hF:=SG.rely hF qI;clear qI
  refine goes_oper_k rfl rfl aB (λKq uI=>?_)
  (have h0:=hF.cj.1;have h1:=hF.cj.2)
  go_simp
  try(unfold stored;go_simp)
  refine uI _ _ ⟨?_,?_⟩
  ·(refine P5 hF.mj hF.jC (hF.sf.bs.lt hF.mj) ?_;co_evs (exact⟨_,_,rfl,rfl⟩))
  clear uI Kq
  try walk_nrm)
 clear h0 h1;replace hF:=hF.an5 (.int .i64 ((j:Nat):Int))
 (co_apply aQ rfl;intro _ qI;replace hF:=SG.rely hF qI;clear qI)
 refine goes_oper_k rfl rfl aB (λK hK=>?_);have h0:=hF.cc.1.1;have h1:=hF.cc.1.2;have h2:=hF.cc.2.1;have h3:=hF.cc.2.2;go_simp;refine hK _ _ ⟨?_,?_⟩
 .refine alr hF.mc hF.cC (hF.sf.bs.lt hF.mc) ?_;intro e he;have hm:=mem_listed he;simp[go_sem, *]at hm;rcases hm with rfl|rfl<;>exact⟨_,_,rfl,rfl⟩
 clear hK K h0 h1 h2 h3
 try walk_nrm
 replace hF:=hF.arL (.int .i64 ((E.px j:Nat):Int)) (.slice c.bs L c.co)
 (co_apply aQ rfl;intro _ qI;replace hF:=SG.rely hF qI;clear qI;rw[bg];simp only[bu];refine⟨a_ qj _,?_⟩)
 (co_apply aQ rfl;intro _ qI;replace hF:=SG.rely hF qI;clear qI;rw[aX];simp only[bu];refine⟨a_ qj _,?_⟩)
 (co_apply aQ rfl;intro _ qI;replace hF:=SG.rely hF qI;clear qI;rw[aX];simp only[bu];refine⟨a_ qj _,?_⟩)
 (co_apply aQ rfl;intro _ qI;replace hF:=SG.rely hF qI;clear qI;rw[dW,n16];simp only[bu,List.range,List.range.loop];refine⟨a_ qj _,?_⟩;simp only[o16,q16])
 (co_apply aQ rfl;intro _ qI;replace hF:=SG.rely hF qI;clear qI
  refine goes_oper_k rfl rfl aB (λKq uI=>?_)
  (skip)
  go_simp
  try(unfold stored;go_simp)
  refine uI _ _ ⟨?_,?_⟩
  ·(co_still qj)
  clear uI Kq
  try walk_nrm)
 (co_apply aQ rfl;intro _ qI;replace hF:=SG.rely hF qI;clear qI
  refine goes_oper_k rfl rfl aB (λKq uI=>?_)
  (have h0:=hF.cc.1.1)
  go_simp
  try(unfold stored;go_simp)
  refine uI _ _ ⟨?_,?_⟩
  ·(refine tH (.inl hF.mc) (hF.sf.bs.lt hF.mc) ?_;co_evs (exact⟨_,rfl,rfl⟩))
  clear uI Kq
  try walk_nrm)
 clear h0
 (co_apply aQ rfl;intro _ qI;replace hF:=SG.rely hF qI;clear qI
  refine goes_oper_k rfl rfl aB (λKq uI=>?_)
  (have h0:=hF.cj.1)
  go_simp
  try(unfold stored;go_simp)
  refine uI _ _ ⟨?_,?_⟩
  ·(refine tH (.inl hF.mj) (hF.sf.bs.lt hF.mj) ?_;co_evs (exact⟨_,rfl,rfl⟩))
  clear uI Kq
  try walk_nrm)
 clear h0
 (co_apply aQ rfl;intro _ qI;replace hF:=SG.rely hF qI;clear qI
  refine goes_oper_k rfl rfl aB (λKq uI=>?_)
  (skip)
  go_simp
  try(unfold stored;go_simp)
  refine uI _ _ ⟨?_,?_⟩
  ·(co_quiet qj)
  clear uI Kq
  try walk_nrm)
 (co_apply aQ rfl;intro _ qI;replace hF:=SG.rely hF qI;clear qI;rw[bg];simp only[bu];refine⟨a_ qj _,?_⟩)
 exact acy _ _ _ _ _ ⟨_,_,_,_,_,_,_,_,_,_,_,_,_,_,_,_,_,_,_,_,_,_,_,_,_,_,_,_,_,_,_,_,_,_,_,_,_,_,_,_,_,_,_,_,_,_,_,_,_,_,_,_,_,_,_,_,_,_,_,rfl⟩ hF
end
section
variable [Payload][qR]{main:Bool}{Wg C k B L:Nat}{E:Env}
theorem an7(_hE:QV E k L){s0 j bj bc:Nat}{v0 v1:ai}{w:ah}(hj:j<k)(h:SG Wg C k B L E s0 j bj bc (.int .i64 ((j:Nat):Int)) v0 v1 w):
  WIn Wg C k B (E.cap bj j) k L j (E.ws j) E.cs (w.out (book w.heap.size [bj])):=by
 have hf:=h.sf.low;have lt:∀{b:Nat},Lo Wg C B b->b<w.heap.size:=λhb=>bH hb.1 h.sf.bs.hB
 refine⟨⟨auk,h.sf.bs.hC,h.sf.bs.hB,λb hb=>awr⟩,h.sf.pay,.inr hf.la,hf.va,.inl (.inl awq),h.cj.1,
  .inr hf.lv,hf.vv,.inr hf.lW,hf.vW j hj,.inr hf.ld,hf.vd,⟨.inr (hf.lr j hj),lt (hf.lr j hj),.inr hf.lD,lt hf.lD,hf.hw j hj,hf.hc,λc hc=>⟨.inr (hf.yf c hc).1,lt (hf.yf c hc).1,(hf.yf c hc).2⟩⟩⟩
theorem aii{cs:aT}{j:Nat}(hj:j<k)(NU:k<=128)(m:Nat):∃n,∀(T:aH)(w:ah)(s0 j':Nat)(Stop:aI->ah->Prop),TS E Wg k j T->SF Wg C k B L E s0 j' w->
  (∀T' w',TS E Wg k (j+1) T'->SF Wg C k B L E s0 j' w'->(Goes prog true (Ro Wg C k B (λi=>¬E.Dp k i)) (Dg Wg C k B (λi=>¬E.Dp k i))) Stop m (G ((base 52).at ⟨T',[]⟩ (.code vG::.inLoop vG::.inBlock 2::[.code Js])) cs) w')->
  (Goes prog true (Ro Wg C k B (λi=>¬E.Dp k i)) (Dg Wg C k B (λi=>¬E.Dp k i))) Stop n (G ((base 52).at ⟨T,[]⟩ (.code (.region 20 o20 false)::.inLoop vG::.inBlock 2::[.code Js])) cs) w:=by
 co_apply Exists.intro;rintro T w s0 j' Stop ⟨v0,v1,v2,v3,v4,v5,v6,v8,v9,VP,Xf,S9,S_,Tc,PS,PU,v20,v21,v22,TK,v24,TL,v26,ZZ,v28,v29,v30,v31,v32,v33,v34,v35,v36,v37,v38,v39,v40,v41,v42,v43,v44,v45,v46,v50,v51,v52,v53,v54,v55,v56,v57,v58,v59,v60,v61,v62,v63,v64,v65,v66,v67,v68,rfl⟩ hF acy;have E8:IntKind.i64.wrap ((j:Int)+1)=((j+1:Nat):Int):=jG;generalize[Item.inBlock 2,Item.code Js]=kk at acy⊢
 (co_apply aQ rfl;intro _ qI;replace hF:=SF.rely hF qI;clear qI;rw[dW,n20];simp only[bu,List.range,List.range.loop];refine⟨a_ qj _,?_⟩;simp only[o20,q20])
 (co_apply aQ rfl;intro _ qI;replace hF:=SF.rely hF qI;clear qI
  refine goes_oper_k rfl rfl aB (λKq uI=>?_)
  (skip)
  go_simp
  try(unfold stored;go_simp)
  refine uI _ _ ⟨?_,?_⟩
  ·(co_quiet qj)
  clear uI Kq
  try walk_nrm)
 (co_apply aQ rfl;intro _ qI;replace hF:=SF.rely hF qI;clear qI
  refine goes_oper_k rfl rfl aB (λKq uI=>?_)
  (skip)
  go_simp
  try(unfold stored;go_simp)
  refine uI _ _ ⟨?_,?_⟩
  ·(co_quiet qj)
  clear uI Kq
  try walk_nrm)
 (co_apply aQ rfl;intro _ qI;replace hF:=SF.rely hF qI;clear qI;rw[bg];simp only[bu];refine⟨a_ qj _,?_⟩)
 (co_apply aQ rfl;intro _ qI;replace hF:=SF.rely hF qI;clear qI;rw[stepG_inLoop];simp only[bu];refine⟨a_ qj _,?_⟩)
 exact acy _ _ ⟨_,_,_,_,_,_,_,_,_,_,_,_,_,_,_,_,_,_,_,_,_,_,_,_,_,_,_,_,_,_,_,_,_,_,_,_,_,_,_,_,_,_,_,_,_,_,_,_,_,_,_,_,_,_,_,_,_,_,_,_,_,_,rfl⟩ hF
theorem an8(hE:QV E k L){cs:aT}{j:Nat}(hj:j<k)(hmj:E.px j≠j)(r:Nat){m1:Nat}
  (ih:∀(T:aH)(w:ah)(ids:aC)(s0:Nat),TS E Wg k (j+1) T->SF Wg C k B L E s0 (j+1) w->(∀x,x∈ids↔E.Dp k x/\x<j+1)->(Goes prog true (Ro Wg C k B (λi=>¬E.Dp k i)) (Dg Wg C k B (λi=>¬E.Dp k i))) (StS Wg C k B L E cs r ids) m1 (G ((base 52).at ⟨T,[]⟩ (.code vG::.inLoop vG::.inBlock 2::[.code Js])) cs) w):
  ∃n,∀(T:aH)(w:ah)(ids:aC)(s0 bj bc:Nat)(v0 v1:ai),TS2 E Wg k j bj bc T->SG Wg C k B L E s0 j bj bc (.int .i64 ((j:Nat):Int)) v0 v1 w->(∀x,x∈ids↔E.Dp k x/\x<j)->
   (Goes prog true (Ro Wg C k B (λi=>¬E.Dp k i)) (Dg Wg C k B (λi=>¬E.Dp k i))) (StS Wg C k B L E cs (r+1) ids) n (G ((base 52).at ⟨T,[]⟩ (.code afT::.code rGo::.inBlock 3::.code (.region 20 o20 false)::.inLoop vG::.inBlock 2::[.code Js])) cs) w:=by
 obtain⟨mw,hmw⟩:=arw (Wg:=Wg) (C:=C) (B:=B) k L hE.k0 hE.k1 hE.hL j hj;obtain⟨m2,qZ⟩:=aii (Wg:=Wg) (C:=C) (k:=k) (B:=B) (L:=L) (E:=E) (cs:=cs) hj hE.k1 m1;co_apply Exists.intro;rintro T w ids s0 bj bc v0x v1x ⟨v0,v1,v2,v3,v4,v5,v6,v8,v9,S9,S_,Tc,PS,PU,v20,v21,v22,TK,v24,TL,v26,ZZ,v28,v29,v30,v31,v32,v33,v34,v35,v36,v37,v38,v39,v40,v41,v42,v43,v44,v45,v46,v50,v51,v52,v53,v54,v55,v56,v58,v59,v60,v61,v62,v63,v64,v65,v66,v67,v68,rfl⟩ hF CX;have apA:decide (((E.px j:Nat):Int)=((j:Nat):Int))=false:=aJ;rw[apA];generalize hkk:Item.inBlock 3::Item.code (Code.region 20 o20 false)::Item.inLoop vG::[Item.inBlock 2,Item.code Js]=kk;unfold afT rGo
 (co_apply aQ rfl;intro _ qI;replace hF:=SG.rely hF qI;clear qI)
 rw[lJ (t:=false) rfl];simp only[bu,dm,bU];refine⟨a_ qj _,?_⟩
 (co_apply aQ rfl;intro _ qI;replace hF:=SG.rely hF qI;clear qI;rw[fE];simp only[bu];refine⟨a_ qj _,?_⟩)
 (co_apply aQ rfl;intro _ qI;replace hF:=SG.rely hF qI;clear qI;rw[aX];simp only[bu];refine⟨a_ qj _,?_⟩)
 (co_apply aQ rfl;intro _ qI;replace hF:=SG.rely hF qI;clear qI;rw[dW,n18];simp only[bu,List.range,List.range.loop];refine⟨a_ qj _,?_⟩;simp only[o18,q18])
 (co_apply aQ rfl;intro _ qI;replace hF:=SG.rely hF qI;clear qI)
 refine goes_call rfl rfl aB rfl Nc.f_add (nm_add link) rfl ⟨a_ qj _,?_⟩
 walk_nrmf addFn
 refine dC (n:=0) λw₁ hR=>?_
 replace hF:=hF.rely hR;clear hR;have hA:=λ(b₀:aS)(a₀:Act)(ops₀:Array Oper)(i₀:Nat)(rest₀:aC)(k₀:dh)=>an9 (L:=link) (P:=prog) (Wg:=Wg) (b₀:=b₀) (a₀:=a₀) (ops₀:=ops₀) (i₀:=i₀) (rest₀:=rest₀) (k₀:=k₀) (cs:=cs) Nc;simp only[body_add,addFn,bf]at hA;refine⟨rfl,_,0+1+1+1,hA _ _ _ _ _ _,?_⟩;clear hA;walk_nrm
 (co_apply aQ rfl;intro _ qI;replace hF:=SG.rely hF qI;clear qI;rw[bg];simp only[bu];refine⟨a_ qj _,?_⟩)
 (co_apply aQ rfl;intro _ qI;replace hF:=SG.rely hF qI;clear qI;rw[dW,n19];simp only[bu,List.range,List.range.loop];refine⟨a_ qj _,?_⟩;simp only[o19,q19])
 (co_apply aQ rfl;intro _ qI;replace hF:=SG.rely hF qI;clear qI
  refine goes_oper_k rfl rfl aB (λKq uI=>?_)
  (skip)
  go_simp
  try(unfold stored;go_simp)
  refine uI _ _ ⟨?_,?_⟩
  ·(co_quiet qj)
  clear uI Kq
  try walk_nrm)
 refine dC (n:=0) λw₂ r₂=>?_
 replace hF:=hF.rely r₂;clear r₂;refine⟨rfl,?_⟩;rw[stepG_spawn (d:=aaz Wg (E.cap bj j)) (w':=w₂) (f:=.func 79) (c:=QJ Wg (E.cap bj j)) rfl rfl aB (by simp[go_sem,aaz,QJ,Env.cap,Deferred.ofValue]) rfl];generalize hL:listed _ _ _ _ _=Lx
 have hLx:Lx=#[]:=by rw[<-hL];simp[listed,go_sem,seen,Deferred.ofValue];rfl
 subst hLx;clear hL
 refine⟨_,_,j,[bj],rfl,rfl,λhx=>by have:=(CX j).1 hx;omega,⟨hj,hmj⟩,λb hb=>awH,
  ⟨mw,hmw _ _ _ _ _ (hE.wl j hj).1 hE.len (hE.wl j hj).2 hE.cl rfl (an7 hE hj hF)⟩,λl' TM=>(aie r _ _ _).2 ⟨m2+1+1,?_⟩⟩
 walk_nrm;have hS:SF Wg C k B L E s0 (j+1) (w₂.out (book w₂.heap.size l')):=hF.sf.book ⟨hj,hmj⟩ (λb hb=>hF.sf.bs.lt ((TM b).1 hb).1) (λb hb qB=>(TM b).2 ⟨hb,λhx=>by rw[iO]at hx;have:=hF.lj;omega⟩);clear hF;subst hkk
 (co_apply aQ rfl;intro _ qI;replace hS:=SF.rely hS qI;clear qI;rw[bg];simp only[bu];refine⟨a_ qj _,?_⟩)
 (co_apply aQ rfl;intro _ qI;replace hS:=SF.rely hS qI;clear qI;rw[stepG_inBlock];simp only[bu];refine⟨a_ qj _,?_⟩)
 refine qZ _ _ s0 (j+1) _ ⟨_,_,_,_,_,_,_,_,_,_,_,_,_,_,_,_,_,_,_,_,_,_,_,_,_,_,_,_,_,_,_,_,_,_,_,_,_,_,_,_,_,_,_,_,_,_,_,_,_,_,_,_,_,_,_,_,_,_,_,_,_,_,rfl⟩ hS (λT' w' h1 h2=>ih T' w' (j::ids) s0 h1 h2 (λx=>?_));rw[dK,CX];constructor
 .rintro(rfl|h)
  .exact⟨⟨hj,hmj⟩,ag⟩
  .exact⟨h.1,ag⟩
 .rintro⟨h1,h2⟩;by_cases hx:x=j
  .exact .inl hx
  .exact .inr ⟨h1,ag⟩
theorem an_(hE:QV E k L){cs:aT}{j:Nat}(hj:j<k)(hpj:E.px j=j){c:Um}(hcj:E.cs[j]?=some c)(r:Nat){m1:Nat}
  (ih:∀(T:aH)(w:ah)(ids:aC)(s0:Nat),TS E Wg k (j+1) T->SF Wg C k B L E s0 (j+1) w->(∀x,x∈ids↔E.Dp k x/\x<j+1)->(Goes prog true (Ro Wg C k B (λi=>¬E.Dp k i)) (Dg Wg C k B (λi=>¬E.Dp k i))) (StS Wg C k B L E cs r ids) m1 (G ((base 52).at ⟨T,[]⟩ (.code vG::.inLoop vG::.inBlock 2::[.code Js])) cs) w):
  ∃n,∀(T:aH)(w:ah)(ids:aC)(s0 bj bc:Nat)(v0:ai),TS2 E Wg k j bj bc T->SG Wg C k B L E s0 j bj bc (.int .i64 ((j:Nat):Int)) v0 (.slice c.bs L c.co) w->(∀x,x∈ids↔E.Dp k x/\x<j)->
   (Goes prog true (Ro Wg C k B (λi=>¬E.Dp k i)) (Dg Wg C k B (λi=>¬E.Dp k i))) (StS Wg C k B L E cs r ids) n (G ((base 52).at ⟨T,[]⟩ (.code afT::.code rGo::.inBlock 3::.code (.region 20 o20 false)::.inLoop vG::.inBlock 2::[.code Js])) cs) w:=by
 obtain⟨q,hq⟩:=aic (main:=true) (Wg:=Wg) (C:=C) (n:=k) (B:=B) (Cl:=λi=>¬E.Dp k i) L hE.hL;obtain⟨m2,qZ⟩:=aii (Wg:=Wg) (C:=C) (k:=k) (B:=B) (L:=L) (E:=E) (cs:=cs) hj hE.k1 m1;have T:=qj (Wg:=Wg) (C:=C) (n:=k) (B:=B) (Cl:=λi=>¬E.Dp k i);have sJ:=jO hcj;have VQ:¬E.Dp k j:=λh=>h.2 hpj
 co_apply Exists.intro;rintro T' w ids s0 bj bc v0x ⟨v0,v1,v2,v3,v4,v5,v6,v8,v9,S9,S_,Tc,PS,PU,v20,v21,v22,TK,v24,TL,v26,ZZ,v28,v29,v30,v31,v32,v33,v34,v35,v36,v37,v38,v39,v40,v41,v42,v43,v44,v45,v46,v50,v51,v52,v53,v54,v55,v56,v58,v59,v60,v61,v62,v63,v64,v65,v66,v67,v68,rfl⟩ hF CX;have apA:decide (((E.px j:Nat):Int)=((j:Nat):Int))=true:=by rw[hpj];simp
 have hiI:(j:Int)<(k:Int):=ag;rw[apA];generalize hkk:Item.code rGo::Item.inBlock 3::Item.code (Code.region 20 o20 false)::Item.inLoop vG::[Item.inBlock 2,Item.code Js]=kk;unfold afT
 (co_apply aQ rfl;intro _ qI;replace hF:=SG.rely hF qI;clear qI)
 rw[lJ (t:=true) rfl];simp only[bu,aY];refine⟨a_ qj _,?_⟩
 (co_apply aQ rfl;intro _ qI;replace hF:=SG.rely hF qI;clear qI;rw[aX];simp only[bu];refine⟨a_ qj _,?_⟩)
 simp only[o17,q17];co_apply wpC_goes (Q:=λe a' w'=>e=.normal/\a'.defers=[]/\TS E Wg k j a'.tmps/\∃s,SF Wg C k B L E s (j+1) w') (Aj T aeI (S:=SG Wg C k B L E s0 j bj bc (.int .i64 ((j:Nat):Int)) v0x (.slice c.bs L c.co)) (lst:=6) (nf:=q) ak ?any) rfl aB ?cont
 case any=>
  intro w₁ h₁
  replace hF:SG Wg C k B L E s0 j bj bc (.int .i64 ((j:Nat):Int)) v0x (.slice c.bs L c.co) {w₁ with drawn:=w₁.drawn+1}:=by have:=hF.rely h₁;exact⟨⟨⟨this.sf.bs.tg,this.sf.bs.hC,this.sf.bs.hB,this.sf.bs.ow⟩,this.sf.pay,this.sf.low.Ag (λ_ _ _ _=>rfl),this.sf.sb,this.sf.dn⟩,this.lj,this.lc,this.ne,this.mj,this.mc,this.hj,this.hc⟩
  clear h₁;have NW:∀x y,SG Wg C k B L E s0 j bj bc (.int .i64 ((j:Nat):Int)) v0x (.slice c.bs L c.co) x->Ro Wg C k B (λi=>¬E.Dp k i) x y->SG Wg C k B L E s0 j bj bc (.int .i64 ((j:Nat):Int)) v0x (.slice c.bs L c.co) y:=λ_ _ h r=>h.rely r
  have RS:∀(a:Act)(x y:ah),(Exit.normal=.normal/\a.defers=[]/\TS E Wg k j a.tmps/\∃s,SF Wg C k B L E s (j+1) x)->Ro Wg C k B (λi=>¬E.Dp k i) x y->(Exit.normal=.normal/\a.defers=[]/\TS E Wg k j a.tmps/\∃s,SF Wg C k B L E s (j+1) y):=λa x y ⟨h1,h2,h3,s,h4⟩ r=>⟨h1,h2,h3,s,h4.rely r⟩
  generalize{w₁ with drawn:=w₁.drawn+1}=w2 at hF⊢;simp only[fH,dQ,d_,Nat.reduceAdd,bJ]
  (co_applyP su T NW RS (i:=0) rfl ak ak ak ak ak (.inl ⟨aF,λ_ hw=>⟨run_eq_of ?aav,?Uo⟩⟩) hF ?ah5
   case aav=>
    intro Kq uI
    (have h1:=hw.sf.low.va)
    exact axa
   case Uo=>
    (have h1:=hw.sf.low.va)
    (refine tH (b:=E.ba) (.inr hw.sf.low.la) (hw.sf.bs.zS (.inr hw.sf.low.la)) ?_;co_evs (exact⟨_,rfl,rfl⟩))
   try walk_nrm)
  (co_applyP su T NW RS (i:=1) rfl ak ak ak ak ak (.inl ⟨aF,λ_ hw=>⟨run_eq_of ?aaw,?Ur⟩⟩) hF ?ah6
   case aaw=>
    intro Kq uI
    (have h1:=hw.cj.1)
    exact axa
   case Ur=>
    (have h1:=hw.cj.1)
    (refine tH (.inl hw.mj) (hw.sf.bs.lt hw.mj) ?_;co_evs (exact⟨_,rfl,rfl⟩))
   try walk_nrm)
  (co_applyP su T NW RS (i:=2) rfl ak ak ak ak ak (.inl ⟨aF,λ_ hw=>⟨run_eq_of ?aax,?Us⟩⟩) hF ?ah7
   case aax=>
    intro Kq uI
    (skip)
    exact axa
   case Us=>
    (skip)
    (co_still T)
   try walk_nrm)
  (co_applyP su T NW RS (i:=3) rfl ak ak ak ak ak (.inl ⟨aF,λ_ hw=>⟨run_eq_of ?aay,?Ut⟩⟩) hF ?ah8
   case aay=>
    intro Kq uI
    (have h1:=hw.cc.1.2)
    exact axa
   case Ut=>
    (have h1:=hw.cc.1.2)
    (refine tH (.inl hw.mc) (hw.sf.bs.lt hw.mc) ?_;co_evs (exact⟨_,rfl,rfl⟩))
   try walk_nrm)
  have yf:=hF.sf.low.yf c sJ;refine Gq (i:=4) ak ⟨_,rfl,.inr (.inl ⟨aF,_,_,_,(λv w'=>∃N,v=.slice (some ⟨N,0,none⟩) L L/\CG Wg C k B (λi=>¬E.Dp k i) w2 N c.ys w'),rfl,by walk_nrm;exact hq w2 c.bs c.bo c.oo c.co c.ys yf.2.1 (hE.cl c sJ).1 hF.sf.bs (.inr yf.1) yf.2.2,?_⟩)⟩;rintro v w' ⟨N,rfl,hg⟩;have hN:N≠C/\B<=N:=by have:=hg.lo;have:=hF.sf.bs.hC;have:=hF.sf.bs.hB;omega
  replace hF:=hF.ex hg.bs hg.ex;have hx:=And.intro hg.mn hg.hx;clear hg;refine⟨λ_=>hF,?_⟩;walk_nrm;refine Bi (i:=5) ak rfl aF (λw₁ hR K hK=>?_);replace hF:=hF.rely hR;replace hx:=And.intro ((hR.yx N).2 hx.1) ((hR.mine N hx.1).trans hx.2);clear hR;go_simp;refine hK _ _ ⟨?_,λ_=>hF,?_⟩
  .co_still T
  clear hK K;walk_nrm;refine Bi (i:=6) ak rfl aF (λw₁ hR K hK=>?_);replace hF:=hF.rely hR;replace hx:=And.intro ((hR.yx N).2 hx.1) ((hR.mine N hx.1).trans hx.2);clear hR
  obtain⟨u,hu1,hu2⟩:∃u,w₁.cell? ⟨C,j,none⟩=some u/\w₁.frozen? ⟨C,j,none⟩=false:=by obtain⟨arr,h1,h2⟩:=hF.sf.pay;exact⟨arr[j]' ag,by simp[World.cell?,h1,h2,hj],ave⟩
  go_simp
  try(unfold stored;go_simp)
  refine hK _ _ ⟨?_,λh=>absurd rfl h,?_⟩
  .refine YT (Cl:=λi=>¬E.Dp k i) hF.sf.pay hF.sf.bs.hC (i:=j) VQ _ ?_
   co_evs (exact⟨_,rfl⟩)
  clear hK K;walk_nrm;exact KH ak ⟨rfl,rfl,⟨_,_,_,_,_,_,_,_,_,_,_,_,_,_,_,_,_,_,_,_,_,_,_,_,_,_,_,_,_,_,_,_,_,_,_,_,_,_,_,_,_,_,_,_,_,_,_,_,_,_,_,_,_,_,_,_,_,_,_,_,_,_,rfl⟩,_,hF.sf.cell hj hcj hx.1 hN hx.2⟩ _
 case cont=>
  rintro e a' w' ⟨rfl,hd,hT,s,hS⟩;obtain⟨T',ds⟩:=a';obtain rfl:ds=[]:=hd;show Goes _ _ _ _ _ _ (G ((base 52).at ⟨T',[]⟩ (.code (.exit 3)::kk)) cs) w';subst hkk
  (co_apply aQ rfl;intro _ qI;replace hS:=SF.rely hS qI;clear qI)
  refine goes_exit rfl ?_;refine⟨a_ qj _,?_⟩;refine qZ _ _ s (j+1) _ hT hS (λT' w' h1 h2=>ih T' w' ids s h1 h2 (λx=>?_));rw[CX];constructor
  .rintro⟨h1,h2⟩;exact⟨h1,ag⟩
  .rintro⟨h1,h2⟩;by_cases hx:x=j
   .exact absurd (hx▸h1) VQ
   .exact⟨h1,ag⟩
def UB(E:Env):Nat->Nat->Nat
 |_,0=>0
 |j,d+1=>if E.px j=j then UB E (j+1) d else UB E (j+1) d+1
theorem spj(hE:QV E k L){cs:aT}:∀(d j:Nat),j+d=k->∃m,∀(T:aH)(w:ah)(ids:aC)(s0:Nat),TS E Wg k j T->SF Wg C k B L E s0 j w->(∀x,x∈ids↔E.Dp k x/\x<j)->
  (Goes prog true (Ro Wg C k B (λi=>¬E.Dp k i)) (Dg Wg C k B (λi=>¬E.Dp k i))) (StS Wg C k B L E cs (UB E j d) ids) m (G ((base 52).at ⟨T,[]⟩ (.code vG::.inLoop vG::.inBlock 2::[.code Js])) cs) w
 |0,j,hd=>by obtain rfl:j=k:=ag;obtain⟨m,hm⟩:=an6 (Wg:=Wg) (C:=C) (k:=j) (B:=B) (L:=L) (E:=E) (cs:=cs);exact⟨m,λT w ids s0 hT hF CX=>hm T w ids s0 hT hF (λx=>(CX x).trans ⟨λh=>h.1,λh=>⟨h,h.1⟩⟩)⟩
 |d+1,j,hd=>by
  obtain⟨m1,ih⟩:=spj hE d (j+1) ag;have hj:j<k:=ag;obtain⟨c,hcj⟩:∃c,E.cs[j]?=some c:=⟨E.cs[j]'(by rw[hE.len];exact hj),aA⟩;by_cases hp:E.px j=j
  .obtain⟨m2,h2⟩:=an_ hE hj hp hcj (UB E (j+1) d) ih;obtain⟨m3,h3⟩:=aih (Wg:=Wg) (C:=C) (B:=B) hE (cs:=cs) hj hcj m2;refine⟨m3,λT w ids s0 hT hF CX=>h3 T w s0 _ hT hF λT' w' s1 bj bc hT' hG=>?_⟩;rw[UB,ax hp];exact h2 T' w' ids s1 bj bc _ hT' hG CX
  .obtain⟨m2,h2⟩:=an8 hE hj hp (UB E (j+1) d) ih;obtain⟨m3,h3⟩:=aih (Wg:=Wg) (C:=C) (B:=B) hE (cs:=cs) hj hcj m2;refine⟨m3,λT w ids s0 hT hF CX=>h3 T w s0 _ hT hF λT' w' s1 bj bc hT' hG=>?_⟩;rw[UB,au hp];exact h2 T' w' ids s1 bj bc _ _ hT' hG CX
end
end Go.Proofs.Y
namespace Go.Proofs.Y
open Go.Proofs.Tryz
open Go.RowKit Go.Deep Go.Lf Go.Conc
def anl:Code->Code| .seq x _=>x|c=>c
def QW:Code->Code| .seq _ y=>y|c=>c
def anm:Code->Array Oper| .region _ o _=>o|_=>#[]
theorem aaB:∃fn,prog.funcs[52]?=some fn:=⟨_,func52⟩
noncomputable def Jt:Code:=Tryz.f52.body.getD .skip
noncomputable def Z4:Code:=QW (QW (QW (QW (QW (QW (QW Jt))))))
def mF(K:Nat)(px:Nat->Nat)(i j:Nat):F:=Fin.ofNat 256 (sN K (px i) j)
theorem aqc(K:Nat)(px:Nat->Nat)(i j:Nat):fv (mF K px i) j=.int .u8 ((sN K (px i) j:Nat):Int):=by unfold fv mF;rw[show(Fin.ofNat 256 (sN K (px i) j)).val=sN K (px i) j from dB Am]
theorem aij{K:Nat}{ix σ:Nat->Nat}(hK:K<=128)(hP:FT K ix σ)(hx:∀i,i<K->ix i<128):F.Sq K (λs=>Fin.ofNat 256 (ix (σ s))) (mF K λs=>ix (σ s)):=by
 have hv:∀s,s<K->(Fin.ofNat 256 (ix (σ s))).val=ix (σ s):=λs hs=>dB (by have:=hx _ (hP.lt s hs);omega)
 refine⟨λs hs qB=>?_,λs hs NV j hj=>?_,λs j hs hj hne e=>?_,ag⟩
 .rw[hv s hs]at qB⊢;have e:=hP.on s hs qB;refine⟨e,λj _=>fC ?_⟩;show sN K (ix (σ s)) j%256=_;rw[e,dB Am];unfold sN;rw[ax hs];split<;>rfl
 .rw[hv s hs]at NV;refine fC ?_;show sN K (ix (σ s)) j%256=inv ((Fin.ofNat 256 (ix (σ s))).val^^^(Fin.ofNat 256 j).val);have hxj:=hx _ (hP.lt s hs);rw[hv s hs,show(Fin.ofNat 256 j).val=j from dB ag,dB Am];unfold sN;rw[au ag,dB (by have:=KO hxj (show j<128 by omega);omega)]
 .have:=bI Fin.val e;rw[hv s hs,hv j hj]at this;exact hP.inj s j hs hj hne this
structure RD(w1:ah)(K t:Nat)(q:CL)(σ rb:Nat->Nat)(bR bD:Nat)(w:ah):Prop where
 rows:w.rowIs bR 24 K (λi=>if i<t then .slice (some ⟨rb i,0,none⟩) K K else .slice none 0 0)
 dat:w.rowIs bD 24 K (λi=>if i<t then q.d (σ i)else .slice none 0 0)
 row:∀i,i<t->w.rowIs (rb i) 5 K (λj=>.int .u8 ((sN K (q.ix (σ i)) j:Nat):Int))
 inj:∀i j,i<t->j<t->i≠j->rb i≠rb j
 low:∀i,i<t->w1.heap.size<=rb i/\rb i<w.heap.size
 oth:Cb (λb=>b=bR\/b=bD) w1 w
def alv(bp K Dq bv ba:Nat)(T:aH):Prop:=∃f:Nat->ai,T=#[f 0,f 1,f 2,f 3,f 4,.slice (some ⟨bp,0,none⟩) K K,f 6,.pointer (some ⟨Dq,0,none⟩),f 8,f 9,.pointer (some ⟨bv,0,none⟩),.pointer (some ⟨ba,0,none⟩),f 12,f 13,f 14,f 15,f 16,f 17,f 18,f 19,f 20,f 21,f 22,f 23,f 24,f 25,f 26,f 27,f 28,f 29,f 30,f 31,f 32,f 33,f 34,f 35,f 36,f 37,f 38,f 39,f 40,f 41,f 42,f 43,f 44,f 45,f 46,f 47,f 48,f 49,f 50,f 51,f 52,f 53,f 54,f 55,f 56,f 57,f 58,f 59,f 60,f 61,f 62,f 63,f 64,f 65,f 66,f 67,f 68]
theorem alx{bp K Dq bv ba:Nat}{T:aH}(h:T=#[ae T 0,ae T 1,ae T 2,ae T 3,ae T 4,.slice (some ⟨bp,0,none⟩) K K,ae T 6,.pointer (some ⟨Dq,0,none⟩),ae T 8,ae T 9,.pointer (some ⟨bv,0,none⟩),.pointer (some ⟨ba,0,none⟩),ae T 12,ae T 13,ae T 14,ae T 15,ae T 16,ae T 17,ae T 18,ae T 19,ae T 20,ae T 21,ae T 22,ae T 23,ae T 24,ae T 25,ae T 26,ae T 27,ae T 28,ae T 29,ae T 30,ae T 31,ae T 32,ae T 33,ae T 34,ae T 35,ae T 36,ae T 37,ae T 38,ae T 39,ae T 40,ae T 41,ae T 42,ae T 43,ae T 44,ae T 45,ae T 46,ae T 47,ae T 48,ae T 49,ae T 50,ae T 51,ae T 52,ae T 53,ae T 54,ae T 55,ae T 56,ae T 57,ae T 58,ae T 59,ae T 60,ae T 61,ae T 62,ae T 63,ae T 64,ae T 65,ae T 66,ae T 67,ae T 68]):alv bp K Dq bv ba T:=⟨λi=>T.getD i undef,h⟩
structure UC(K:Nat)(q:CL)(σ:Nat->Nat)(bp Dq bD bv h2 ba C:Nat)(b2:Nat->Nat)(B:Nat->Nat->F)(w:ah):Prop where
 p0:∀t,t<K->w.cell? ⟨bp,t*2,none⟩=some (.int .i64 ((q.ix (σ t):Nat):Int))
 p1:∀t,t<K->w.cell? ⟨bp,t*2+1,none⟩=some (q.d (σ t))
 vd:w.cell? ⟨Dq,0,none⟩=some (.slice (some ⟨bD,0,none⟩) K K)
 hD:∀t,t<K->w.cell? ⟨bD,t,none⟩=some (q.d (σ t))
 vv:w.cell? ⟨bv,0,none⟩=some (.slice (some ⟨h2,0,none⟩) K K)
 hW:∀t,t<K->w.cell? ⟨h2,t,none⟩=some (.slice (some ⟨b2 t,0,none⟩) K K)
 hw:∀t j,t<K->j<K->w.cell? ⟨b2 t,j,none⟩=some (.int .u8 (((B t j).val:Nat):Int))
 va:w.cell? ⟨ba,0,none⟩=some (.slice (some ⟨C,0,none⟩) K K)
 pay:w.heap[C]?=some (.cells (madeCells #[.slice none 0 0] K) 24)
 new:bp<C/\Dq<C/\bD<C/\bv<C/\h2<C/\(∀t,t<K->b2 t<C)/\C<ba/\ba<w.heap.size
 gj:∃A,F.Gj K (mF K λs=>q.ix (σ s)) K A B
 pl:FT K q.ix σ
theorem RD.more{w1 w wa wb:ah}{K t:Nat}{q:CL}{σ rb:Nat->Nat}{bR bD:Nat}(h:RD w1 K t q σ rb bR bD w)(ht:t<K)(hne:bR≠bD)(hbR:bR<w1.heap.size)(hbD:bD<w1.heap.size)(ha:Below w.heap.size w wa)(hr:zT wa wb K (sN K (q.ix (σ t)))):
  RD w1 K (t+1) q σ (λi=>if i=t then wa.heap.size else rb i) bR bD ((wb.setCell ⟨bR,t,none⟩ (.slice (some ⟨wa.heap.size,0,none⟩) K K)).setCell ⟨bD,t,none⟩ (q.d (σ t)))/\
  (wb.cell? ⟨bR,t,none⟩=some (.slice none 0 0)/\wb.frozen? ⟨bR,t,none⟩=false)/\(wb.setCell ⟨bR,t,none⟩ (.slice (some ⟨wa.heap.size,0,none⟩) K K)).cell? ⟨bD,t,none⟩=some (.slice none 0 0)/\(wb.setCell ⟨bR,t,none⟩ (.slice (some ⟨wa.heap.size,0,none⟩) K K)).frozen? ⟨bD,t,none⟩=false:=by
 have hsa:=ha.size;have Ai:=h.oth.size;have Kr:=hr.size;have k:∀b,b<w.heap.size->wb.heap[b]?=w.heap[b]?:=λb hb=>(hr.below.block b ag).trans (ha.block b hb)
 have r1:=h.rows.of_block (k bR ag);have d1:=h.dat.of_block (k bD ag);have r2:=r1.set t (.slice (some ⟨wa.heap.size,0,none⟩) K K);have d2:=d1.setOther (a:=⟨bR,t,none⟩) (λe=>hne e.symm) (.slice (some ⟨wa.heap.size,0,none⟩) K K)
 have QK:∀i,i<t+1->((wb.setCell ⟨bR,t,none⟩ (.slice (some ⟨wa.heap.size,0,none⟩) K K)).setCell ⟨bD,t,none⟩ (q.d (σ t))).rowIs (if i=t then wa.heap.size else rb i) 5 K (λj=>.int .u8 ((sN K (q.ix (σ i)) j:Nat):Int)):=λi hi=>by
  by_cases e:i=t
  .subst e;rw[ax rfl];exact(hr.row.setOther (a:=⟨bR,i,none⟩) (by show wa.heap.size≠bR;omega) _).setOther (a:=⟨bD,i,none⟩) (by show wa.heap.size≠bD;omega) _
  .rw[au e];have hl:=h.low i ag;exact(((h.row i ag).of_block (k (rb i) hl.2)).setOther (a:=⟨bR,t,none⟩) (by show rb i≠bR;omega) _).setOther (a:=⟨bD,t,none⟩) (by show rb i≠bD;omega) _
 refine⟨⟨?_,?_,QK,λi j hi hj PV=>?_,λi hi=>?_,?_⟩,⟨?_,r1.frozen t⟩,?_,d2.frozen t⟩
 .refine(r2.setOther (a:=⟨bD,t,none⟩) hne _).congr λi hi=>?_
  by_cases e:i=t
  .rw[ax e,ax ag,ax e]
  .rw[au e];by_cases e2:i<t
   .rw[ax e2,ax ag,au e]
   .rw[au e2,au ag]
 .refine(d2.set t (q.d (σ t))).congr λi hi=>?_
  by_cases e:i=t
  .rw[ax e,ax ag,e]
  .rw[au e];by_cases e2:i<t
   .rw[ax e2,ax ag]
   .rw[au e2,au ag]
 .by_cases e1:i=t
  .rw[ax e1,au ag];have:=(h.low j ag).2;omega
  .rw[au e1];by_cases e2:j=t
   .rw[ax e2];have:=(h.low i ag).2;omega
   .rw[au e2];exact h.inj i j ag ag PV
 .by_cases e:i=t
  .rw[ax e];simp;omega
  .rw[au e];have:=h.low i ag;simp;omega
 .exact(((h.oth.trans (S':=λ_=>False) (.below ha) (λ_ _ x=>x.elim)).trans (S':=λ_=>False) (.below hr.below) (λ_ _ x=>x.elim)).set (a:=⟨bR,t,none⟩) (.inl (.inl rfl)) _).set (a:=⟨bD,t,none⟩) (.inl (.inr rfl)) _
 .have:=r1.cell ht;exact axj
 .have:=d2.cell ht;exact axj
section
variable {X:Nat->Prop}{Y:Nat->aZ}{D:Nat->ah->aN->Prop}{Stop:aI->ah->Prop}{w:ah}{K bc cap:Nat}{q:CL}
theorem aaC(hD:zN X D){cs:aT}{M oc:Nat}(hK:0<K/\K<=128)(hKM:K<=M)(uF:M<=cap)(hx:∀i,i<K->q.ix i<128)(hC:CO w bc oc K q)(apB:∀i j,i<K->j<K->i≠j->q.ix i≠q.ix j)
  (qZ:∀(σ:Nat->Nat)(bp Dq bD bv h2 ba C:Nat)(b2:Nat->Nat)(B:Nat->Nat->F)(T:aH)(w1:ah),alv bp K Dq bv ba T->UC K q σ bp Dq bD bv h2 ba C b2 B w1->(∀b,b<w.heap.size->b<C)->(w.heap.size<=bp/\w.heap.size<=Dq/\w.heap.size<=bD/\w.heap.size<=bv/\w.heap.size<=h2/\∀t,t<K->w.heap.size<=b2 t)->tX w.heap.size w w1->uN prog X Y D Stop 52 cs [.code Z4] ⟨T,[]⟩ w1):
  uN prog X Y D Stop 52 cs [.code Jt] ⟨#[.int .i64 (K:Int),.slice (some ⟨bc,oc,none⟩) M cap]++Array.replicate 67 undef,[]⟩ w:=by
 have hKc:(K:Int)<=(cap:Int):=ag
 have one:∀(u:ah)(x:ai),(u.alloc (.cells #[x] 23)).rowIs u.heap.size 23 1 (λ_=>x):=λu x=>World.rowIs_alloc u #[x] 23 (λ_=>x) (λi hi=>by obtain rfl:i=0:=nT;rfl)
 have m1:=Eb K ag;have mz:=λu:ah=>World.rowIs_made u (.slice none 0 0) K 24
 generalize hZ:madeCells #[.slice none 0 0] K=Z at m1 mz;unfold Jt;simp only[Tryz.f52,bf,eU,eQ,eH,eP,dw,df];refine rV IP hD ak rfl aaB λR hR τ d'=>?_
 have hCA:CO ({w with tape:=τ,drawn:=d'}:ah) bc oc K q:=⟨hC.lt,hC.c0,hC.c1⟩;have hbA:tX w.heap.size w {w with tape:=τ,drawn:=d'}:=(tX.refl _ w).tp τ d';generalize({w with tape:=τ,drawn:=d'}:ah)=wA at hCA hbA⊢;go_wp2;refine rV IP hD ak rfl aaB λR hR τ d'=>?_
 replace hCA:CO ({wA with tape:=τ,drawn:=d'}:ah) bc oc K q:=⟨hCA.lt,hCA.c0,hCA.c1⟩;replace hbA:=hbA.tp τ d';generalize({wA with tape:=τ,drawn:=d'}:ah)=wA at hCA hbA⊢;have c1:=aik K bc oc cap q wA ag hx hCA apB
 go_wp2_with(first|(go_at_call 74;(with_reducible refine c1.mono ?_);rintro e w1 ⟨σ,rfl,hP,uD,tV⟩))
 have hwA:=hbA.uo;have bl:=hbA.trans (tX.of tV) hwA;generalize hbp:wA.heap.size=bp at*;clear tV hbp hCA hbA c1;refine rV IP hD ak rfl aaB λR hR τ d'=>?_
 replace uD:({w1 with tape:=τ,drawn:=d'}:ah).rowIs _ _ _ _:=uD;replace bl:=bl.tp τ d';generalize({w1 with tape:=τ,drawn:=d'}:ah)=w1 at uD bl⊢;have hpb:=uD.lt;have m1':=m1 w1;have z1:=mz w1;have s1:(w1.alloc (.cells Z 24)).heap.size=w1.heap.size+1:=aA;have tV:Below w1.heap.size w1 (w1.alloc (.cells Z 24)):=(aO _ _).alloc (ay _) _;go_wp2;have afU:=uD.of_block (tV.block bp hpb);have hsw:=bl.uo;replace bl:=bl.trans (tX.of tV) hsw;generalize w1.alloc (.cells Z 24)=w2 at z1 s1 afU bl⊢;generalize hbR:w1.heap.size=bR at*;clear tV m1' uD hbR;refine rV IP hD ak rfl aaB λR hR τ d'=>?_
 replace afU:({w2 with tape:=τ,drawn:=d'}:ah).rowIs _ _ _ _:=afU;replace z1:({w2 with tape:=τ,drawn:=d'}:ah).rowIs _ _ _ _:=z1;replace s1:({w2 with tape:=τ,drawn:=d'}:ah).heap.size=bR+1:=s1;replace bl:=bl.tp τ d';generalize({w2 with tape:=τ,drawn:=d'}:ah)=w2 at afU z1 s1 bl⊢;have m2':=m1 w2;have z2:=mz w2;rw[s1]at m2' z2;have s2:(w2.alloc (.cells Z 24)).heap.size=bR+2:=by simp[s1]
 have rq:Below (bR+1) w2 (w2.alloc (.cells Z 24)):=(aO _ _).alloc ag _;have y0:=one (w2.alloc (.cells Z 24)) (.slice (some ⟨bR+1,0,none⟩) K K);rw[s2]at y0;have uQ:=rq.alloc ag (.cells #[.slice (some ⟨bR+1,0,none⟩) K K] 23);have s3:((w2.alloc (.cells Z 24)).alloc (.cells #[.slice (some ⟨bR+1,0,none⟩) K K] 23)).heap.size=bR+3:=by simp[s1]
 have z2':=z2.alloc (.cells #[.slice (some ⟨bR+1,0,none⟩) K K] 23);have z1':=z1.of_block (uQ.block bR ag);have YW:=afU.of_block (uQ.block bp ag);go_wp2;replace bl:=bl.trans (tX.of uQ) ag;generalize(w2.alloc (.cells Z 24)).alloc (.cells #[.slice (some ⟨bR+1,0,none⟩) K K] 23)=w3 at y0 s3 z2' z1' YW bl⊢;clear z1 z2 m2' rq uQ s1 s2 afU;refine rV IP hD ak rfl aaB λR hR τ d'=>?_
 replace YW:({w3 with tape:=τ,drawn:=d'}:ah).rowIs _ _ _ _:=YW;replace z1':({w3 with tape:=τ,drawn:=d'}:ah).rowIs _ _ _ _:=z1';replace z2':({w3 with tape:=τ,drawn:=d'}:ah).rowIs _ _ _ _:=z2';replace y0:({w3 with tape:=τ,drawn:=d'}:ah).rowIs _ _ _ _:=y0;replace s3:({w3 with tape:=τ,drawn:=d'}:ah).heap.size=bR+3:=s3;replace bl:=bl.tp τ d';generalize({w3 with tape:=τ,drawn:=d'}:ah)=w3 at YW z1' z2' y0 s3 bl⊢;have aqd:RD w3 K 0 q σ (λ_=>0) bR (bR+1) w3:=⟨z1'.congr λi _=>iT,z2'.congr λi _=>iT,λi h=>absurd h ag,λi j h=>absurd h ag,λi h=>absurd h ag,Cb.refl _ _⟩;clear z1' z2';go_wp2
 go_loopw [25] (λvi wr=>∃t:Nat,t<=K/\vi=.int .i64 (t:Int)/\∃rb,RD w3 K t q σ rb bR (bR+1) wr) (λi _=>K-(intOf i).toNat)
 case atStart=>exact⟨0,ag,rfl,_,aqd⟩
 case round=>
  clear aqd;obtain⟨t,ht,rfl,rb,hRD⟩:=hrel;by_cases qB:t<K
  .have xZ:(t:Int)<(K:Int):=ag;have aoa:=hRD.oth.row YW.lt (by rintro(e|e)<;>omega) YW;have y0r:=hRD.oth.row y0.lt (by rintro(e|e)<;>omega) y0;have g0:=aoa.cell (i:=t*2) ag;have g1:=aoa.cell (i:=t*2+1) ag;simp only[UD,show t*2/2=t by omega,show t*2%2=0 by omega,show(t*2+1)/2=t by omega,show(t*2+1)%2=1 by omega,cvv,aY,ng,bU,CL.d]at g0 g1;have hxt:q.ix (σ t)<128:=hx (σ t) (hP.lt t qB);have be1:=(aO wr.heap.size wr).alloc (ay _) (.cells #[.int .i64 ((q.ix (σ t):Nat):Int),.slice (q.db (σ t)) q.L (q.dc (σ t))] 55)
   have n0:(wr.alloc (.cells #[.int .i64 ((q.ix (σ t):Nat):Int),.slice (q.db (σ t)) q.L (q.dc (σ t))] 55)).rowIs wr.heap.size 55 2 (λj=>if j=0 then .int .i64 ((q.ix (σ t):Nat):Int)else .slice (q.db (σ t)) q.L (q.dc (σ t))):=
     World.rowIs_alloc wr #[.int .i64 ((q.ix (σ t):Nat):Int),.slice (q.db (σ t)) q.L (q.dc (σ t))] 55 _ (λi hi=>by have:i=0\/i=1:=nT;rcases this with rfl|rfl<;>rfl)
   have y1:=y0r.alloc (.cells #[.int .i64 ((q.ix (σ t):Nat):Int),.slice (q.db (σ t)) q.L (q.dc (σ t))] 55);have hrd:=λwb=>hRD.more (wb:=wb) qB ag ag ag be1
   have c3:=aly K (q.ix (σ t)) ag hxt;have hwl:=hRD.oth.size;have hMs:wr.heap.size<(wr.alloc (.cells #[.int .i64 ((q.ix (σ t):Nat):Int),.slice (q.db (σ t)) q.L (q.dc (σ t))] 55)).heap.size:=aA;generalize hW1:wr.alloc (.cells #[.int .i64 ((q.ix (σ t):Nat):Int),.slice (q.db (σ t)) q.L (q.dc (σ t))] 55)=W1 at n0 y1 hrd be1 hMs;have a0:=n0.cell (i:=0) ag;have a1:=n0.cell (i:=1) ag;simp only[aY,ng,bU]at a0 a1
   have fin:∀W2,zT W1 W2 K (sN K (q.ix (σ t)))->(W2.cell? ⟨bR,t,none⟩=some (.slice none 0 0)/\W2.frozen? ⟨bR,t,none⟩=false)/\∃W3,W2.setCell ⟨bR,t,none⟩ (.slice (some ⟨W1.heap.size,0,none⟩) K K)=W3/\W3.cell? ⟨bR+2,0,none⟩=some (.slice (some ⟨bR+1,0,none⟩) K K)/\W3.cell? ⟨wr.heap.size,1,none⟩=some (.slice (q.db (σ t)) q.L (q.dc (σ t)))/\W3.cell? ⟨bR+1,t,none⟩=some (.slice none 0 0)/\W3.frozen? ⟨bR+1,t,none⟩=false/\RD w3 K (t+1) q σ (λi=>if i=t then W1.heap.size else rb i) bR (bR+1) (W3.setCell ⟨bR+1,t,none⟩ (.slice (q.db (σ t)) q.L (q.dc (σ t)))):=λW2 TN=>by
    obtain⟨h1,h2,h3,h4⟩:=hrd W2 TN;refine⟨h2,_,rfl,?_,?_,h3,h4,h1⟩
    .exact((y1.of_block (TN.below.block _ y1.lt)).setOther (a:=⟨bR,t,none⟩) (by show bR+2≠bR;omega) _).cell (i:=0) ag
    .have:=((n0.of_block (TN.below.block _ n0.lt)).setOther (a:=⟨bR,t,none⟩) (by show wr.heap.size≠bR;omega) (.slice (some ⟨W1.heap.size,0,none⟩) K K)).cell (i:=1) ag;exact this
   clear hrd aoa y0r y1 n0 YW y0
   go_wp2_with(first|(go_at_call 75;(with_reducible refine(c3 _).mono ?_);rintro e W2 ⟨rfl,TN⟩;obtain⟨⟨e1,e2⟩,W3,hW3,e3,e4,e5,e6,arM⟩:=fin W2 TN;clear fin))
   go_roundw
   case rel=>exact⟨t+1,ag,aV,_,arM⟩
   case measure=>simp[intOf];omega
  .obtain rfl:t=K:=ag;have E5:¬((t:Int)<(t:Int)):=ag;have afV:=hRD.oth.row YW.lt (by rintro(e|e)<;>omega) YW;have y4:=hRD.oth.row y0.lt (by rintro(e|e)<;>omega) y0;have ail:Gi wr bR t rb (mF t λs=>q.ix (σ s)):=⟨hRD.rows.congr λi hi=>by rw[ax hi],λi hi=>(hRD.row i hi).congr λj _=>by rw[aqc],λi j hi hj hne=>hRD.inj i j hi hj hne,λi hi=>by have:=(hRD.low i hi).1;omega⟩;have ahw:=hRD.dat
   have CU:tX w.heap.size w wr:=⟨hRD.oth.os.trans bl.os,rfl,hRD.oth.output.trans bl.output,by have:=hRD.oth.size;have:=bl.uo;show w.heap.size<=_;omega,λb hb=>by have A8:b<w.heap.size:=hb;have e1:=hRD.oth.block b ag (by rintro(e|e)<;>omega);exact e1.trans (bl.block b hb)⟩
   have alz:=λi hi=>(hRD.low i hi).1
   have hsz:=hRD.oth.size;clear hRD bl;go_wp2;refine rV IP hD ak rfl aaB λR hR τ d'=>?_
   replace ail:Gi ({wr with tape:=τ,drawn:=d'}:ah) bR t rb (mF t λs=>q.ix (σ s)):=ail.heap rfl;replace afV:({wr with tape:=τ,drawn:=d'}:ah).rowIs _ _ _ _:=afV;replace y4:({wr with tape:=τ,drawn:=d'}:ah).rowIs _ _ _ _:=y4;replace ahw:({wr with tape:=τ,drawn:=d'}:ah).rowIs _ _ _ _:=ahw;replace CU:=CU.tp τ d';replace hsz:bR+3<=({wr with tape:=τ,drawn:=d'}:ah).heap.size:=by rw[<-s3];exact hsz
   generalize({wr with tape:=τ,drawn:=d'}:ah)=wr at ail afV y4 ahw CU hsz⊢;have c5:=aaD t bR rb _ _ wr ag ail (aij ag hP (λi hi=>hx i hi))
   go_wp2_with(first|(go_at_call 76;(with_reducible refine c5.mono ?_);rintro e w5 ⟨h2,b2,A,B,rfl,hMB,hGj,hO5,hh2,rq⟩))
   have aob:tX w.heap.size w w5:=⟨hO5.os.trans CU.os,rfl,hO5.output.trans CU.output,by have:=CU.uo;have:=hO5.size;show w.heap.size<=_;omega,λb hb=>by have A8:b<w.heap.size:=hb;exact(hO5.block b (by have:=CU.uo;omega) (by rintro⟨i,hi,e⟩;have:=alz i hi;omega)).trans (CU.block b hb)⟩
   have aoc:=hO5.row afV.lt (by rintro⟨i,hi,e⟩;have:=alz i hi;omega) afV;have y5:=hO5.row y4.lt (by rintro⟨i,hi,e⟩;have:=alz i hi;omega) y4;have aod:=hO5.row ahw.lt (by rintro⟨i,hi,e⟩;have:=alz i hi;omega) ahw;have v1:=one w5 (.slice (some ⟨h2,0,none⟩) t t);have Z5:Below w5.heap.size w5 (w5.alloc (.cells #[.slice (some ⟨h2,0,none⟩) t t] 23)):=(aO _ _).alloc (ay _) _;have s6:(w5.alloc (.cells #[.slice (some ⟨h2,0,none⟩) t t] 23)).heap.size=w5.heap.size+1:=aA;have L6:bR+3<=w5.heap.size:=bF hsz hO5.size;have hw5:=aob.uo;have atA:=hMB.head.lt;have arN:=λi hi=>(hMB.rows i hi).lt
   have afW:=aoc.of_block (Z5.block bp aoc.lt);have y6:=y5.of_block (Z5.block _ y5.lt);have aim:=aod.of_block (Z5.block _ aod.lt);have afX:Gi (w5.alloc (.cells #[.slice (some ⟨h2,0,none⟩) t t] 23)) h2 t b2 B:=⟨hMB.head.of_block (Z5.block _ hMB.head.lt),λi hi=>(hMB.rows i hi).of_block (Z5.block _ (hMB.rows i hi).lt),hMB.inj,hMB.sep⟩;have bl6:=aob.trans (tX.of Z5) hw5;have RU:=CU.uo;generalize w5.alloc (.cells #[.slice (some ⟨h2,0,none⟩) t t] 23)=w6 at v1 s6 afW y6 aim afX bl6⊢;generalize hbv:w5.heap.size=bv at*;clear Z5 hMB aoc y5 aod aob CU hO5 c5 afV y4 ahw ail hbv;refine rV IP hD ak rfl aaB λR hR τ d'=>?_
   replace afX:Gi ({w6 with tape:=τ,drawn:=d'}:ah) h2 t b2 B:=afX.heap rfl;replace afW:({w6 with tape:=τ,drawn:=d'}:ah).rowIs _ _ _ _:=afW;replace y6:({w6 with tape:=τ,drawn:=d'}:ah).rowIs _ _ _ _:=y6;replace aim:({w6 with tape:=τ,drawn:=d'}:ah).rowIs _ _ _ _:=aim;replace v1:({w6 with tape:=τ,drawn:=d'}:ah).rowIs _ _ _ _:=v1;replace s6:({w6 with tape:=τ,drawn:=d'}:ah).heap.size=bv+1:=s6;replace bl6:=bl6.tp τ d';generalize({w6 with tape:=τ,drawn:=d'}:ah)=w6 at afX afW y6 aim v1 s6 bl6⊢;have m5:=m1 w6;rw[s6]at m5
   have z7:(w6.alloc (.cells Z 24)).heap[bv+1]?=some (.cells Z 24):=by have:=gU w6 (.cells Z 24);rwa[s6]at this
   have s7:(w6.alloc (.cells Z 24)).heap.size=bv+2:=by simp[s6]
   have hb7:Below (bv+1) w6 (w6.alloc (.cells Z 24)):=(aO _ _).alloc ag _;go_wp2;have v3:=one (w6.alloc (.cells Z 24)) (.slice (some ⟨bv+1,0,none⟩) t t);rw[s7]at v3;have hb8:=hb7.alloc ag (.cells #[.slice (some ⟨bv+1,0,none⟩) t t] 23);have z8:((w6.alloc (.cells Z 24)).alloc (.cells #[.slice (some ⟨bv+1,0,none⟩) t t] 23)).heap[bv+1]?=some (.cells Z 24):=(dI _ _ _ ag).trans z7;have s8:((w6.alloc (.cells Z 24)).alloc (.cells #[.slice (some ⟨bv+1,0,none⟩) t t] 23)).heap.size=bv+3:=by simp[s6]
   generalize(w6.alloc (.cells Z 24)).alloc (.cells #[.slice (some ⟨bv+1,0,none⟩) t t] 23)=w8 at v3 hb8 z8 s8⊢;have st:∀{b o:Nat}{v:ai},w6.cell? ⟨b,o,none⟩=some v->w8.cell? ⟨b,o,none⟩=some v:=λ{b o v} hc=>(hb8.cell (p:=⟨b,o,none⟩) (by have:=ain hc;show b<_;omega)).trans hc
   have hpf:UC t q σ bp (bR+2) (bR+1) bv h2 (bv+2) (bv+1) b2 B w8:=by
    refine⟨λx hx=>?_,λx hx=>?_,st (y6.cell (i:=0) ag),λx hx=>?_,st (v1.cell (i:=0) ag),λx hx=>st (afX.head.cell hx),λx j hx hj=>st ((afX.rows x hx).cell hj),v3.cell (i:=0) ag,by rw[hZ];exact z8,⟨ag,ag,ag,ag,ag,λx hx=>by have:=arN x hx;omega,ag,ag⟩,⟨A,hGj⟩,hP⟩
    .have:=afW.cell (i:=x*2) ag;simp only[UD,show x*2/2=x by omega,show x*2%2=0 by omega,cvv,aY]at this;exact st this
    .have:=afW.cell (i:=x*2+1) ag;simp only[UD,show(x*2+1)/2=x by omega,show(x*2+1)%2=1 by omega,cvv,ng,bU]at this;exact st this
    .have:=aim.cell hx;rw[ax hx]at this;exact st this
   exact qZ σ bp (bR+2) (bR+1) bv h2 (bv+2) (bv+1) b2 B _ w8 (alx rfl) hpf (λb hb=>ag) ⟨ag,ag,ag,ag,ag,λx hx=>by have:=rq x hx;omega⟩ (bl6.trans (tX.of hb8) ag)
