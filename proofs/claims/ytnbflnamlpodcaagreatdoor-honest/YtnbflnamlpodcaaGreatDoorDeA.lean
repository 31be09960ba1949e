import Derived.Test.YtnbflnamlpodcaaGreatDoorCoS
set_option maxHeartbeats 4000000
set_option maxRecDepth 100000
namespace Go.Proofs.Y
open Go.Proofs.Tryz
open Go.Conc Go.ConcN Go.RowKit Go.Gh Go.Conc.Lib Go.ConcR.Gen Go.ConcN.Gen
open Go.ConcR (Payload)
section
variable [Payload][rq]{main:Bool}{Wg C k B L:Nat}{E:Env}
theorem aoU(_hE:RQ E k L){s0 j bj bc:Nat}{v0 v1:ai}{w:ah}(hj:j<k)(h:SG Wg C k B L E s0 j bj bc (.int .i64 ((j:Nat):Int)) v0 v1 w):
  WIn Wg C k B (E.cap bj j) k L j (E.ws j) E.cs (w.out (book w.heap.size [bj])):=by
 have hf:=h.sf.low;have lt:∀{b:Nat},Lo Wg C B b->b<w.heap.size:=λhb=>bG hb.1 h.sf.bs.hB
 refine⟨⟨avr,h.sf.bs.hC,h.sf.bs.hB,λb hb=>axt⟩,h.sf.pay,.inr hf.la,hf.va,.inl (.inl axs),h.cj.1,
  .inr hf.lv,hf.vv,.inr hf.lW,hf.vW j hj,.inr hf.ld,hf.vd,⟨.inr (hf.lr j hj),lt (hf.lr j hj),.inr hf.lD,lt hf.lD,hf.hw j hj,hf.hc,λc hc=>⟨.inr (hf.xR c hc).1,lt (hf.xR c hc).1,(hf.xR c hc).2⟩⟩⟩
theorem aiX{cs:aP}{j:Nat}(hj:j<k)(KP:k<=128)(m:Nat):∃n,∀(T:aB)(w:ah)(s0 j':Nat)(Stop:aG->ah->Prop),TS E Wg k j T->SF Wg C k B L E s0 j' w->
  (∀T' w',TS E Wg k (j+1) T'->SF Wg C k B L E s0 j' w'->(Goes prog true (Ro Wg C k B (λi=>¬E.D8 k i)) (Dg Wg C k B (λi=>¬E.D8 k i))) Stop m (G ((base 67).at ⟨T',[]⟩ (.code vJ::.inLoop vJ::.inBlock 2::[.code Jy])) cs) w')->
  (Goes prog true (Ro Wg C k B (λi=>¬E.D8 k i)) (Dg Wg C k B (λi=>¬E.D8 k i))) Stop n (G ((base 67).at ⟨T,[]⟩ (.code (.region 20 o20 false)::.inLoop vJ::.inBlock 2::[.code Jy])) cs) w:=by
 co_apply Exists.intro;rintro T w s0 j' Stop ⟨v0,v1,v2,v3,v4,v5,v6,v8,v9,Wx,XR,Qa,Oh,Ud,Qk,Ql,v20,v21,v22,Ux,v24,Qm,v26,v27,v28,v29,v30,v31,v32,v33,v34,v35,v36,v37,v38,v39,v40,v41,v42,v43,v44,v45,v46,v50,v51,v52,v53,v54,v55,v56,v57,v58,v59,v60,v61,v62,v63,v64,v65,v66,v67,v68,rfl⟩ hF acY;have BB:IntKind.i64.wrap ((j:Int)+1)=((j+1:Nat):Int):=iw;generalize[Item.inBlock 2,Item.code Jy]=kk at acY⊢
 (co_apply aO rfl;intro _ qL;replace hF:=SF.rely hF qL;clear qL;rw[dS,n20];simp only[bF,List.range,List.range.loop];refine⟨aZ qj _,?_⟩;simp only[o20,q20])
 (co_apply aO rfl;intro _ qL;replace hF:=SF.rely hF qL;clear qL
  refine goes_oper_k rfl rfl aC (λKq uK=>?_)
  (skip)
  go_simp
  try(unfold stored;go_simp)
  refine uK _ _ ⟨?_,?_⟩
  ·(co_quiet qj)
  clear uK Kq
  try walk_nrm)
 (co_apply aO rfl;intro _ qL;replace hF:=SF.rely hF qL;clear qL
  refine goes_oper_k rfl rfl aC (λKq uK=>?_)
  (skip)
  go_simp
  try(unfold stored;go_simp)
  refine uK _ _ ⟨?_,?_⟩
  ·(co_quiet qj)
  clear uK Kq
  try walk_nrm)
 (co_apply aO rfl;intro _ qL;replace hF:=SF.rely hF qL;clear qL;rw[bf];simp only[bF];refine⟨aZ qj _,?_⟩)
 (co_apply aO rfl;intro _ qL;replace hF:=SF.rely hF qL;clear qL;rw[stepG_inLoop];simp only[bF];refine⟨aZ qj _,?_⟩)
 exact acY _ _ ⟨_,_,_,_,_,_,_,_,_,_,_,_,_,_,_,_,_,_,_,_,_,_,_,_,_,_,_,_,_,_,_,_,_,_,_,_,_,_,_,_,_,_,_,_,_,_,_,_,_,_,_,_,_,_,_,_,_,_,_,_,_,_,rfl⟩ hF
theorem aoV(hE:RQ E k L){cs:aP}{j:Nat}(hj:j<k)(hmj:E.px j≠j)(r:Nat){m1:Nat}
  (ih:∀(T:aB)(w:ah)(ids:aA)(s0:Nat),TS E Wg k (j+1) T->SF Wg C k B L E s0 (j+1) w->(∀x,x∈ids↔E.D8 k x/\x<j+1)->(Goes prog true (Ro Wg C k B (λi=>¬E.D8 k i)) (Dg Wg C k B (λi=>¬E.D8 k i))) (StS Wg C k B L E cs r ids) m1 (G ((base 67).at ⟨T,[]⟩ (.code vJ::.inLoop vJ::.inBlock 2::[.code Jy])) cs) w):
  ∃n,∀(T:aB)(w:ah)(ids:aA)(s0 bj bc:Nat)(v0 v1:ai),TS2 E Wg k j bj bc T->SG Wg C k B L E s0 j bj bc (.int .i64 ((j:Nat):Int)) v0 v1 w->(∀x,x∈ids↔E.D8 k x/\x<j)->
   (Goes prog true (Ro Wg C k B (λi=>¬E.D8 k i)) (Dg Wg C k B (λi=>¬E.D8 k i))) (StS Wg C k B L E cs (r+1) ids) n (G ((base 67).at ⟨T,[]⟩ (.code agm::.code rGo::.inBlock 3::.code (.region 20 o20 false)::.inLoop vJ::.inBlock 2::[.code Jy])) cs) w:=by
 obtain⟨mw,hmw⟩:=asw (Wg:=Wg) (C:=C) (B:=B) k L hE.k0 hE.k1 hE.hL j hj;obtain⟨m2,qJ⟩:=aiX (Wg:=Wg) (C:=C) (k:=k) (B:=B) (L:=L) (E:=E) (cs:=cs) hj hE.k1 m1;co_apply Exists.intro;rintro T w ids s0 bj bc v0x v1x ⟨v0,v1,v2,v3,v4,v5,v6,v8,v9,Qa,Oh,Ud,Qk,Ql,v20,v21,v22,Ux,v24,Qm,v26,v27,v28,v29,v30,v31,v32,v33,v34,v35,v36,v37,v38,v39,v40,v41,v42,v43,v44,v45,v46,v50,v51,v52,v53,v54,v55,v56,v58,v59,v60,v61,v62,v63,v64,v65,v66,v67,v68,rfl⟩ hF BL;have aqt:decide (((E.px j:Nat):Int)=((j:Nat):Int))=false:=aS;rw[aqt];generalize hkk:Item.inBlock 3::Item.code (Code.region 20 o20 false)::Item.inLoop vJ::[Item.inBlock 2,Item.code Jy]=kk;unfold agm rGo
 (co_apply aO rfl;intro _ qL;replace hF:=SG.rely hF qL;clear qL)
 rw[lF (t:=false) rfl];simp only[bF,dC,bQ];refine⟨aZ qj _,?_⟩
 (co_apply aO rfl;intro _ qL;replace hF:=SG.rely hF qL;clear qL;rw[fB];simp only[bF];refine⟨aZ qj _,?_⟩)
 (co_apply aO rfl;intro _ qL;replace hF:=SG.rely hF qL;clear qL;rw[aW];simp only[bF];refine⟨aZ qj _,?_⟩)
 (co_apply aO rfl;intro _ qL;replace hF:=SG.rely hF qL;clear qL;rw[dS,n18];simp only[bF,List.range,List.range.loop];refine⟨aZ qj _,?_⟩;simp only[o18,q18])
 (co_apply aO rfl;intro _ qL;replace hF:=SG.rely hF qL;clear qL)
 refine goes_call rfl rfl aC rfl Nr.f_add (nm_add link) rfl ⟨aZ qj _,?_⟩
 walk_nrmf addFn
 refine dF (n:=0) λw₁ hR=>?_
 replace hF:=hF.rely hR;clear hR;have hA:=λ(b₀:aJ)(a₀:Act)(ops₀:Array Oper)(i₀:Nat)(rest₀:aA)(k₀:b_)=>aoJ (L:=link) (P:=prog) (Wg:=Wg) (b₀:=b₀) (a₀:=a₀) (ops₀:=ops₀) (i₀:=i₀) (rest₀:=rest₀) (k₀:=k₀) (cs:=cs) Nr;simp only[body_add,addFn,aQ]at hA;refine⟨rfl,_,0+1+1+1,hA _ _ _ _ _ _,?_⟩;clear hA;walk_nrm
 (co_apply aO rfl;intro _ qL;replace hF:=SG.rely hF qL;clear qL;rw[bf];simp only[bF];refine⟨aZ qj _,?_⟩)
 (co_apply aO rfl;intro _ qL;replace hF:=SG.rely hF qL;clear qL;rw[dS,n19];simp only[bF,List.range,List.range.loop];refine⟨aZ qj _,?_⟩;simp only[o19,q19])
 (co_apply aO rfl;intro _ qL;replace hF:=SG.rely hF qL;clear qL
  refine goes_oper_k rfl rfl aC (λKq uK=>?_)
  (skip)
  go_simp
  try(unfold stored;go_simp)
  refine uK _ _ ⟨?_,?_⟩
  ·(co_quiet qj)
  clear uK Kq
  try walk_nrm)
 refine dF (n:=0) λw₂ r₂=>?_
 replace hF:=hF.rely r₂;clear r₂;refine⟨rfl,?_⟩;rw[stepG_spawn (d:=aa8 Wg (E.cap bj j)) (w':=w₂) (f:=.func 111) (c:=Ru Wg (E.cap bj j)) rfl rfl aC (by simp[go_sem,aa8,Ru,Env.cap,Deferred.ofValue]) rfl];generalize hL:listed _ _ _ _ _=Lx
 have hLx:Lx=#[]:=by rw[<-hL];simp[listed,go_sem,seen,Deferred.ofValue];rfl
 subst hLx;clear hL
 refine⟨_,_,j,[bj],rfl,rfl,λhx=>by have:=(BL j).1 hx;omega,⟨hj,hmj⟩,λb hb=>axM,
  ⟨mw,hmw _ _ _ _ _ (hE.wl j hj).1 hE.len (hE.wl j hj).2 hE.cl rfl (aoU hE hj hF)⟩,λl' FI=>(aiI r _ _ _).2 ⟨m2+1+1,?_⟩⟩
 walk_nrm;have hS:SF Wg C k B L E s0 (j+1) (w₂.out (book w₂.heap.size l')):=hF.sf.book ⟨hj,hmj⟩ (λb hb=>hF.sf.bs.lt ((FI b).1 hb).1) (λb hb qK=>(FI b).2 ⟨hb,λhx=>by rw[fG]at hx;have:=hF.lj;omega⟩);clear hF;subst hkk
 (co_apply aO rfl;intro _ qL;replace hS:=SF.rely hS qL;clear qL;rw[bf];simp only[bF];refine⟨aZ qj _,?_⟩)
 (co_apply aO rfl;intro _ qL;replace hS:=SF.rely hS qL;clear qL;rw[stepG_inBlock];simp only[bF];refine⟨aZ qj _,?_⟩)
 refine qJ _ _ s0 (j+1) _ ⟨_,_,_,_,_,_,_,_,_,_,_,_,_,_,_,_,_,_,_,_,_,_,_,_,_,_,_,_,_,_,_,_,_,_,_,_,_,_,_,_,_,_,_,_,_,_,_,_,_,_,_,_,_,_,_,_,_,_,_,_,_,_,rfl⟩ hS (λT' w' h1 h2=>ih T' w' (j::ids) s0 h1 h2 (λx=>?_));rw[dX,BL];constructor
 .rintro(rfl|h)
  .exact⟨⟨hj,hmj⟩,ag⟩
  .exact⟨h.1,ag⟩
 .rintro⟨h1,h2⟩;by_cases hx:x=j
  .exact .inl hx
  .exact .inr ⟨h1,ag⟩
theorem aoW(hE:RQ E k L){cs:aP}{j:Nat}(hj:j<k)(hpj:E.px j=j){c:UK}(hcj:E.cs[j]?=some c)(r:Nat){m1:Nat}
  (ih:∀(T:aB)(w:ah)(ids:aA)(s0:Nat),TS E Wg k (j+1) T->SF Wg C k B L E s0 (j+1) w->(∀x,x∈ids↔E.D8 k x/\x<j+1)->(Goes prog true (Ro Wg C k B (λi=>¬E.D8 k i)) (Dg Wg C k B (λi=>¬E.D8 k i))) (StS Wg C k B L E cs r ids) m1 (G ((base 67).at ⟨T,[]⟩ (.code vJ::.inLoop vJ::.inBlock 2::[.code Jy])) cs) w):
  ∃n,∀(T:aB)(w:ah)(ids:aA)(s0 bj bc:Nat)(v0:ai),TS2 E Wg k j bj bc T->SG Wg C k B L E s0 j bj bc (.int .i64 ((j:Nat):Int)) v0 (.slice c.bs L c.co) w->(∀x,x∈ids↔E.D8 k x/\x<j)->
   (Goes prog true (Ro Wg C k B (λi=>¬E.D8 k i)) (Dg Wg C k B (λi=>¬E.D8 k i))) (StS Wg C k B L E cs r ids) n (G ((base 67).at ⟨T,[]⟩ (.code agm::.code rGo::.inBlock 3::.code (.region 20 o20 false)::.inLoop vJ::.inBlock 2::[.code Jy])) cs) w:=by
 obtain⟨q,hq⟩:=aiG (main:=true) (Wg:=Wg) (C:=C) (n:=k) (B:=B) (Cl:=λi=>¬E.D8 k i) L hE.hL;obtain⟨m2,qJ⟩:=aiX (Wg:=Wg) (C:=C) (k:=k) (B:=B) (L:=L) (E:=E) (cs:=cs) hj hE.k1 m1;have T:=qj (Wg:=Wg) (C:=C) (n:=k) (B:=B) (Cl:=λi=>¬E.D8 k i);have sU:=jA hcj;have Tm:¬E.D8 k j:=λh=>h.2 hpj
 co_apply Exists.intro;rintro T' w ids s0 bj bc v0x ⟨v0,v1,v2,v3,v4,v5,v6,v8,v9,Qa,Oh,Ud,Qk,Ql,v20,v21,v22,Ux,v24,Qm,v26,v27,v28,v29,v30,v31,v32,v33,v34,v35,v36,v37,v38,v39,v40,v41,v42,v43,v44,v45,v46,v50,v51,v52,v53,v54,v55,v56,v58,v59,v60,v61,v62,v63,v64,v65,v66,v67,v68,rfl⟩ hF BL;have aqt:decide (((E.px j:Nat):Int)=((j:Nat):Int))=true:=by rw[hpj];simp
 have hiI:(j:Int)<(k:Int):=ag;rw[aqt];generalize hkk:Item.code rGo::Item.inBlock 3::Item.code (Code.region 20 o20 false)::Item.inLoop vJ::[Item.inBlock 2,Item.code Jy]=kk;unfold agm
 (co_apply aO rfl;intro _ qL;replace hF:=SG.rely hF qL;clear qL)
 rw[lF (t:=true) rfl];simp only[bF,aX];refine⟨aZ qj _,?_⟩
 (co_apply aO rfl;intro _ qL;replace hF:=SG.rely hF qL;clear qL;rw[aW];simp only[bF];refine⟨aZ qj _,?_⟩)
 simp only[o17,q17];co_apply wpC_goes (Q:=λe a' w'=>e=.normal/\a'.defers=[]/\TS E Wg k j a'.tmps/\∃s,SF Wg C k B L E s (j+1) w') (AX T ae5 (S:=SG Wg C k B L E s0 j bj bc (.int .i64 ((j:Nat):Int)) v0x (.slice c.bs L c.co)) (lst:=6) (nf:=q) aj ?any) rfl aC ?cont
 case any=>
  intro w₁ h₁
  replace hF:SG Wg C k B L E s0 j bj bc (.int .i64 ((j:Nat):Int)) v0x (.slice c.bs L c.co) {w₁ with drawn:=w₁.drawn+1}:=by have:=hF.rely h₁;exact⟨⟨⟨this.sf.bs.tg,this.sf.bs.hC,this.sf.bs.hB,this.sf.bs.ow⟩,this.sf.pay,this.sf.low.Bz (λ_ _ _ _=>rfl),this.sf.sb,this.sf.dn⟩,this.lj,this.lc,this.ne,this.mj,this.mc,this.hj,this.hc⟩
  clear h₁;have Oj:∀x y,SG Wg C k B L E s0 j bj bc (.int .i64 ((j:Nat):Int)) v0x (.slice c.bs L c.co) x->Ro Wg C k B (λi=>¬E.D8 k i) x y->SG Wg C k B L E s0 j bj bc (.int .i64 ((j:Nat):Int)) v0x (.slice c.bs L c.co) y:=λ_ _ h r=>h.rely r
  have Ti:∀(a:Act)(x y:ah),(Exit.normal=.normal/\a.defers=[]/\TS E Wg k j a.tmps/\∃s,SF Wg C k B L E s (j+1) x)->Ro Wg C k B (λi=>¬E.D8 k i) x y->(Exit.normal=.normal/\a.defers=[]/\TS E Wg k j a.tmps/\∃s,SF Wg C k B L E s (j+1) y):=λa x y ⟨h1,h2,h3,s,h4⟩ r=>⟨h1,h2,h3,s,h4.rely r⟩
  generalize{w₁ with drawn:=w₁.drawn+1}=w2 at hF⊢;simp only[fU,dJ,dY,Nat.reduceAdd,bM]
  (co_applyP sS T Oj Ti (i:=0) rfl aj aj aj aj aj (.inl ⟨aI,λ_ hw=>⟨run_eq_of ?aa1,?UM⟩⟩) hF ?aiw
   case aa1=>
    intro Kq uK
    (have h1:=hw.sf.low.va)
    exact ayi
   case UM=>
    (have h1:=hw.sf.low.va)
    (refine ui (b:=E.ba) (.inr hw.sf.low.la) (hw.sf.bs.z_ (.inr hw.sf.low.la)) ?_;co_evs (exact⟨_,rfl,rfl⟩))
   try walk_nrm)
  (co_applyP sS T Oj Ti (i:=1) rfl aj aj aj aj aj (.inl ⟨aI,λ_ hw=>⟨run_eq_of ?aa2,?UN⟩⟩) hF ?aix
   case aa2=>
    intro Kq uK
    (have h1:=hw.cj.1)
    exact ayi
   case UN=>
    (have h1:=hw.cj.1)
    (refine ui (.inl hw.mj) (hw.sf.bs.lt hw.mj) ?_;co_evs (exact⟨_,rfl,rfl⟩))
   try walk_nrm)
  (co_applyP sS T Oj Ti (i:=2) rfl aj aj aj aj aj (.inl ⟨aI,λ_ hw=>⟨run_eq_of ?aa3,?UO⟩⟩) hF ?aiy
   case aa3=>
    intro Kq uK
    (skip)
    exact ayi
   case UO=>
    (skip)
    (co_still T)
   try walk_nrm)
  (co_applyP sS T Oj Ti (i:=3) rfl aj aj aj aj aj (.inl ⟨aI,λ_ hw=>⟨run_eq_of ?aa4,?UQ⟩⟩) hF ?aiz
   case aa4=>
    intro Kq uK
    (have h1:=hw.cc.1.2)
    exact ayi
   case UQ=>
    (have h1:=hw.cc.1.2)
    (refine ui (.inl hw.mc) (hw.sf.bs.lt hw.mc) ?_;co_evs (exact⟨_,rfl,rfl⟩))
   try walk_nrm)
  have xR:=hF.sf.low.xR c sU;refine GL (i:=4) aj ⟨_,rfl,.inr (.inl ⟨aI,_,_,_,(λv w'=>∃N,v=.slice (some ⟨N,0,none⟩) L L/\CG Wg C k B (λi=>¬E.D8 k i) w2 N c.ys w'),rfl,by walk_nrm;exact hq w2 c.bs c.bo c.oo c.co c.ys xR.2.1 (hE.cl c sU).1 hF.sf.bs (.inr xR.1) xR.2.2,?_⟩)⟩;rintro v w' ⟨N,rfl,hg⟩;have hN:N≠C/\B<=N:=by have:=hg.lo;have:=hF.sf.bs.hC;have:=hF.sf.bs.hB;omega
  replace hF:=hF.ex hg.bs hg.ex;have hx:=And.intro hg.mn hg.hx;clear hg;refine⟨λ_=>hF,?_⟩;walk_nrm;refine BK (i:=5) aj rfl aI (λw₁ hR K hK=>?_);replace hF:=hF.rely hR;replace hx:=And.intro ((hR.yL N).2 hx.1) ((hR.mine N hx.1).trans hx.2);clear hR;go_simp;refine hK _ _ ⟨?_,λ_=>hF,?_⟩
  .co_still T
  clear hK K;walk_nrm;refine BK (i:=6) aj rfl aI (λw₁ hR K hK=>?_);replace hF:=hF.rely hR;replace hx:=And.intro ((hR.yL N).2 hx.1) ((hR.mine N hx.1).trans hx.2);clear hR
  obtain⟨u,hu1,hu2⟩:∃u,w₁.cell? ⟨C,j,none⟩=some u/\w₁.frozen? ⟨C,j,none⟩=false:=by obtain⟨arr,h1,h2⟩:=hF.sf.pay;exact⟨arr[j]' ag,by simp[World.cell?,h1,h2,hj],awn⟩
  go_simp
  try(unfold stored;go_simp)
  refine hK _ _ ⟨?_,λh=>absurd rfl h,?_⟩
  .refine Zt (Cl:=λi=>¬E.D8 k i) hF.sf.pay hF.sf.bs.hC (i:=j) Tm _ ?_
   co_evs (exact⟨_,rfl⟩)
  clear hK K;walk_nrm;exact Le aj ⟨rfl,rfl,⟨_,_,_,_,_,_,_,_,_,_,_,_,_,_,_,_,_,_,_,_,_,_,_,_,_,_,_,_,_,_,_,_,_,_,_,_,_,_,_,_,_,_,_,_,_,_,_,_,_,_,_,_,_,_,_,_,_,_,_,_,_,_,rfl⟩,_,hF.sf.cell hj hcj hx.1 hN hx.2⟩ _
 case cont=>
  rintro e a' w' ⟨rfl,hd,hT,s,hS⟩;obtain⟨T',ds⟩:=a';obtain rfl:ds=[]:=hd;show Goes _ _ _ _ _ _ (G ((base 67).at ⟨T',[]⟩ (.code (.exit 3)::kk)) cs) w';subst hkk
  (co_apply aO rfl;intro _ qL;replace hS:=SF.rely hS qL;clear qL)
  refine goes_exit rfl ?_;refine⟨aZ qj _,?_⟩;refine qJ _ _ s (j+1) _ hT hS (λT' w' h1 h2=>ih T' w' ids s h1 h2 (λx=>?_));rw[BL];constructor
  .rintro⟨h1,h2⟩;exact⟨h1,ag⟩
  .rintro⟨h1,h2⟩;by_cases hx:x=j
   .exact absurd (hx▸h1) Tm
   .exact⟨h1,ag⟩
def UZ(E:Env):Nat->Nat->Nat
 |_,0=>0
 |j,d+1=>if E.px j=j then UZ E (j+1) d else UZ E (j+1) d+1
theorem spj(hE:RQ E k L){cs:aP}:∀(d j:Nat),j+d=k->∃m,∀(T:aB)(w:ah)(ids:aA)(s0:Nat),TS E Wg k j T->SF Wg C k B L E s0 j w->(∀x,x∈ids↔E.D8 k x/\x<j)->
  (Goes prog true (Ro Wg C k B (λi=>¬E.D8 k i)) (Dg Wg C k B (λi=>¬E.D8 k i))) (StS Wg C k B L E cs (UZ E j d) ids) m (G ((base 67).at ⟨T,[]⟩ (.code vJ::.inLoop vJ::.inBlock 2::[.code Jy])) cs) w
 |0,j,hd=>by obtain rfl:j=k:=ag;obtain⟨m,hm⟩:=aoN (Wg:=Wg) (C:=C) (k:=j) (B:=B) (L:=L) (E:=E) (cs:=cs);exact⟨m,λT w ids s0 hT hF BL=>hm T w ids s0 hT hF (λx=>(BL x).trans ⟨λh=>h.1,λh=>⟨h,h.1⟩⟩)⟩
 |d+1,j,hd=>by
  obtain⟨m1,ih⟩:=spj hE d (j+1) ag;have hj:j<k:=ag;obtain⟨c,hcj⟩:∃c,E.cs[j]?=some c:=⟨E.cs[j]'(by rw[hE.len];exact hj),ax⟩;by_cases hp:E.px j=j
  .obtain⟨m2,h2⟩:=aoW hE hj hp hcj (UZ E (j+1) d) ih;obtain⟨m3,h3⟩:=aiJ (Wg:=Wg) (C:=C) (B:=B) hE (cs:=cs) hj hcj m2;refine⟨m3,λT w ids s0 hT hF BL=>h3 T w s0 _ hT hF λT' w' s1 bj bc XT hG=>?_⟩;rw[UZ,ay hp];exact h2 T' w' ids s1 bj bc _ XT hG BL
  .obtain⟨m2,h2⟩:=aoV hE hj hp (UZ E (j+1) d) ih;obtain⟨m3,h3⟩:=aiJ (Wg:=Wg) (C:=C) (B:=B) hE (cs:=cs) hj hcj m2;refine⟨m3,λT w ids s0 hT hF BL=>h3 T w s0 _ hT hF λT' w' s1 bj bc XT hG=>?_⟩;rw[UZ,au hp];exact h2 T' w' ids s1 bj bc _ _ XT hG BL
end
end Go.Proofs.Y
namespace Go.Proofs.Y
open Go.Proofs.Tryz
open Go.RowKit Go.Deep Go.Lf Go.Conc
def anW:Code->Code| .seq x _=>x|c=>c
def RX:Code->Code| .seq _ y=>y|c=>c
def anX:Code->Array Oper| .region _ o _=>o|_=>#[]
theorem aba:∃fn,prog.funcs[67]?=some fn:=⟨_,func67⟩
noncomputable def JD:Code:=Tryz.f67.body.getD .skip
noncomputable def c12:Code:=RX (RX (RX (RX (RX (RX (RX JD))))))
def mF(K:Nat)(px:Nat->Nat)(i j:Nat):F:=Fin.ofNat 256 (uB K (px i) j)
theorem arb(K:Nat)(px:Nat->Nat)(i j:Nat):fv (mF K px i) j=.int .u8 ((uB K (px i) j:Nat):Int):=by unfold fv mF;rw[show(Fin.ofNat 256 (uB K (px i) j)).val=uB K (px i) j from cu D7]
theorem anY{K:Nat}{ix σ:Nat->Nat}(hK:K<=128)(hP:NF K ix σ)(hx:∀i,i<K->ix i<128):F.Sq K (λs=>Fin.ofNat 256 (ix (σ s))) (mF K λs=>ix (σ s)):=by
 have hv:∀s,s<K->(Fin.ofNat 256 (ix (σ s))).val=ix (σ s):=λs hs=>cu (by have:=hx _ (hP.lt s hs);omega)
 refine⟨λs hs qK=>?_,λs hs Ws j hj=>?_,λs j hs hj hne e=>?_,ag⟩
 .rw[hv s hs]at qK⊢;have e:=hP.on s hs qK;refine⟨e,λj _=>fV ?_⟩;show uB K (ix (σ s)) j%256=_;rw[e,cu D7];unfold uB;rw[ay hs];split<;>rfl
 .rw[hv s hs]at Ws;refine fV ?_;show uB K (ix (σ s)) j%256=inv ((Fin.ofNat 256 (ix (σ s))).val^^^(Fin.ofNat 256 j).val);have hxj:=hx _ (hP.lt s hs);rw[hv s hs,show(Fin.ofNat 256 j).val=j from cu ag,cu D7];unfold uB;rw[au ag,cu (by have:=Qz hxj (show j<128 by omega);omega)]
 .have:=bI Fin.val e;rw[hv s hs,hv j hj]at this;exact hP.inj s j hs hj hne this
structure RD(w1:ah)(K t:Nat)(q:CL)(σ rb:Nat->Nat)(bR bD:Nat)(w:ah):Prop where
 rows:w.rowIs bR 34 K (λi=>if i<t then .slice (some ⟨rb i,0,none⟩) K K else .slice none 0 0)
 dat:w.rowIs bD 34 K (λi=>if i<t then q.d (σ i)else .slice none 0 0)
 row:∀i,i<t->w.rowIs (rb i) 5 K (λj=>.int .u8 ((uB K (q.ix (σ i)) j:Nat):Int))
 inj:∀i j,i<t->j<t->i≠j->rb i≠rb j
 low:∀i,i<t->w1.heap.size<=rb i/\rb i<w.heap.size
 oth:C9 (λb=>b=bR\/b=bD) w1 w
def amg(bp K D_ bv ba:Nat)(T:aB):Prop:=∃f:Nat->ai,T=#[f 0,f 1,f 2,f 3,f 4,.slice (some ⟨bp,0,none⟩) K K,f 6,.pointer (some ⟨D_,0,none⟩),f 8,f 9,.pointer (some ⟨bv,0,none⟩),.pointer (some ⟨ba,0,none⟩),f 12,f 13,f 14,f 15,f 16,f 17,f 18,f 19,f 20,f 21,f 22,f 23,f 24,f 25,f 26,f 27,f 28,f 29,f 30,f 31,f 32,f 33,f 34,f 35,f 36,f 37,f 38,f 39,f 40,f 41,f 42,f 43,f 44,f 45,f 46,f 47,f 48,f 49,f 50,f 51,f 52,f 53,f 54,f 55,f 56,f 57,f 58,f 59,f 60,f 61,f 62,f 63,f 64,f 65,f 66,f 67,f 68]
theorem amh{bp K D_ bv ba:Nat}{T:aB}(h:T=#[ae T 0,ae T 1,ae T 2,ae T 3,ae T 4,.slice (some ⟨bp,0,none⟩) K K,ae T 6,.pointer (some ⟨D_,0,none⟩),ae T 8,ae T 9,.pointer (some ⟨bv,0,none⟩),.pointer (some ⟨ba,0,none⟩),ae T 12,ae T 13,ae T 14,ae T 15,ae T 16,ae T 17,ae T 18,ae T 19,ae T 20,ae T 21,ae T 22,ae T 23,ae T 24,ae T 25,ae T 26,ae T 27,ae T 28,ae T 29,ae T 30,ae T 31,ae T 32,ae T 33,ae T 34,ae T 35,ae T 36,ae T 37,ae T 38,ae T 39,ae T 40,ae T 41,ae T 42,ae T 43,ae T 44,ae T 45,ae T 46,ae T 47,ae T 48,ae T 49,ae T 50,ae T 51,ae T 52,ae T 53,ae T 54,ae T 55,ae T 56,ae T 57,ae T 58,ae T 59,ae T 60,ae T 61,ae T 62,ae T 63,ae T 64,ae T 65,ae T 66,ae T 67,ae T 68]):amg bp K D_ bv ba T:=⟨λi=>T.getD i undef,h⟩
structure U5(K:Nat)(q:CL)(σ:Nat->Nat)(bp D_ bD bv h2 ba C:Nat)(b2:Nat->Nat)(B:Nat->Nat->F)(w:ah):Prop where
 p0:∀t,t<K->w.cell? ⟨bp,t*2,none⟩=some (.int .i64 ((q.ix (σ t):Nat):Int))
 p1:∀t,t<K->w.cell? ⟨bp,t*2+1,none⟩=some (q.d (σ t))
 vd:w.cell? ⟨D_,0,none⟩=some (.slice (some ⟨bD,0,none⟩) K K)
 hD:∀t,t<K->w.cell? ⟨bD,t,none⟩=some (q.d (σ t))
 vv:w.cell? ⟨bv,0,none⟩=some (.slice (some ⟨h2,0,none⟩) K K)
 hW:∀t,t<K->w.cell? ⟨h2,t,none⟩=some (.slice (some ⟨b2 t,0,none⟩) K K)
 hw:∀t j,t<K->j<K->w.cell? ⟨b2 t,j,none⟩=some (.int .u8 (((B t j).val:Nat):Int))
 va:w.cell? ⟨ba,0,none⟩=some (.slice (some ⟨C,0,none⟩) K K)
 pay:w.heap[C]?=some (.cells (madeCells #[.slice none 0 0] K) 34)
 new:bp<C/\D_<C/\bD<C/\bv<C/\h2<C/\(∀t,t<K->b2 t<C)/\C<ba/\ba<w.heap.size
 gj:∃A,F.Gj K (mF K λs=>q.ix (σ s)) K A B
 pl:NF K q.ix σ
theorem RD.more{w1 w wa wb:ah}{K t:Nat}{q:CL}{σ rb:Nat->Nat}{bR bD:Nat}(h:RD w1 K t q σ rb bR bD w)(ht:t<K)(hne:bR≠bD)(hbR:bR<w1.heap.size)(hbD:bD<w1.heap.size)(ha:Below w.heap.size w wa)(hr:Ad wa wb K (uB K (q.ix (σ t)))):
  RD w1 K (t+1) q σ (λi=>if i=t then wa.heap.size else rb i) bR bD ((wb.setCell ⟨bR,t,none⟩ (.slice (some ⟨wa.heap.size,0,none⟩) K K)).setCell ⟨bD,t,none⟩ (q.d (σ t)))/\
  (wb.cell? ⟨bR,t,none⟩=some (.slice none 0 0)/\wb.frozen? ⟨bR,t,none⟩=false)/\(wb.setCell ⟨bR,t,none⟩ (.slice (some ⟨wa.heap.size,0,none⟩) K K)).cell? ⟨bD,t,none⟩=some (.slice none 0 0)/\(wb.setCell ⟨bR,t,none⟩ (.slice (some ⟨wa.heap.size,0,none⟩) K K)).frozen? ⟨bD,t,none⟩=false:=by
 have hsa:=ha.size;have yE:=h.oth.size;have hsb:=hr.size;have k:∀b,b<w.heap.size->wb.heap[b]?=w.heap[b]?:=λb hb=>(hr.below.block b ag).trans (ha.block b hb)
 have r1:=h.rows.of_block (k bR ag);have d1:=h.dat.of_block (k bD ag);have r2:=r1.set t (.slice (some ⟨wa.heap.size,0,none⟩) K K);have d2:=d1.setOther (a:=⟨bR,t,none⟩) (λe=>hne e.symm) (.slice (some ⟨wa.heap.size,0,none⟩) K K)
 have Uf:∀i,i<t+1->((wb.setCell ⟨bR,t,none⟩ (.slice (some ⟨wa.heap.size,0,none⟩) K K)).setCell ⟨bD,t,none⟩ (q.d (σ t))).rowIs (if i=t then wa.heap.size else rb i) 5 K (λj=>.int .u8 ((uB K (q.ix (σ i)) j:Nat):Int)):=λi hi=>by
  by_cases e:i=t
  .subst e;rw[ay rfl];exact(hr.row.setOther (a:=⟨bR,i,none⟩) (by show wa.heap.size≠bR;omega) _).setOther (a:=⟨bD,i,none⟩) (by show wa.heap.size≠bD;omega) _
  .rw[au e];have hl:=h.low i ag;exact(((h.row i ag).of_block (k (rb i) hl.2)).setOther (a:=⟨bR,t,none⟩) (by show rb i≠bR;omega) _).setOther (a:=⟨bD,t,none⟩) (by show rb i≠bD;omega) _
 refine⟨⟨?_,?_,Uf,λi j hi hj WE=>?_,λi hi=>?_,?_⟩,⟨?_,r1.frozen t⟩,?_,d2.frozen t⟩
 .refine(r2.setOther (a:=⟨bD,t,none⟩) hne _).congr λi hi=>?_
  by_cases e:i=t
  .rw[ay e,ay ag,ay e]
  .rw[au e];by_cases e2:i<t
   .rw[ay e2,ay ag,au e]
   .rw[au e2,au ag]
 .refine(d2.set t (q.d (σ t))).congr λi hi=>?_
  by_cases e:i=t
  .rw[ay e,ay ag,e]
  .rw[au e];by_cases e2:i<t
   .rw[ay e2,ay ag]
   .rw[au e2,au ag]
 .by_cases e1:i=t
  .rw[ay e1,au ag];have:=(h.low j ag).2;omega
  .rw[au e1];by_cases e2:j=t
   .rw[ay e2];have:=(h.low i ag).2;omega
   .rw[au e2];exact h.inj i j ag ag WE
 .by_cases e:i=t
  .rw[ay e];simp;omega
  .rw[au e];have:=h.low i ag;simp;omega
 .exact(((h.oth.trans (S':=λ_=>False) (.below ha) (λ_ _ x=>x.elim)).trans (S':=λ_=>False) (.below hr.below) (λ_ _ x=>x.elim)).set (a:=⟨bR,t,none⟩) (.inl (.inl rfl)) _).set (a:=⟨bD,t,none⟩) (.inl (.inr rfl)) _
 .have:=r1.cell ht;exact ayq
 .have:=d2.cell ht;exact ayq
section
variable {X:Nat->Prop}{Y:Nat->aV}{D:Nat->ah->aH->Prop}{Stop:aG->ah->Prop}{w:ah}{K bc cap:Nat}{q:CL}
theorem abb(hD:uU X D){cs:aP}{M oc:Nat}(hK:0<K/\K<=128)(hKM:K<=M)(Ci:M<=cap)(hx:∀i,i<K->q.ix i<128)(hC:CO w bc oc K q)(ahR:∀i j,i<K->j<K->i≠j->q.ix i≠q.ix j)
  (qJ:∀(σ:Nat->Nat)(bp D_ bD bv h2 ba C:Nat)(b2:Nat->Nat)(B:Nat->Nat->F)(T:aB)(w1:ah),amg bp K D_ bv ba T->U5 K q σ bp D_ bD bv h2 ba C b2 B w1->(∀b,b<w.heap.size->b<C)->(w.heap.size<=bp/\w.heap.size<=D_/\w.heap.size<=bD/\w.heap.size<=bv/\w.heap.size<=h2/\∀t,t<K->w.heap.size<=b2 t)->sH w.heap.size w w1->uA prog X Y D Stop 67 cs [.code c12] ⟨T,[]⟩ w1):
  uA prog X Y D Stop 67 cs [.code JD] ⟨#[.int .i64 (K:Int),.slice (some ⟨bc,oc,none⟩) M cap]++Array.replicate 67 undef,[]⟩ w:=by
 have hKc:(K:Int)<=(cap:Int):=ag
 have one:∀(u:ah)(x:ai),(u.alloc (.cells #[x] 28)).rowIs u.heap.size 28 1 (λ_=>x):=λu x=>World.rowIs_alloc u #[x] 28 (λ_=>x) (λi hi=>by obtain rfl:i=0:=jq;rfl)
 have m1:=EJ K ag;have mz:=λu:ah=>World.rowIs_made u (.slice none 0 0) K 34
 generalize hZ:madeCells #[.slice none 0 0] K=Z at m1 mz;unfold JD;simp only[Tryz.f67,aQ,dR,dQ,dM,dP,dA,bT];refine rf qV hD aj rfl aba λR hR τ d'=>?_
 have hCA:CO ({w with tape:=τ,drawn:=d'}:ah) bc oc K q:=⟨hC.lt,hC.c0,hC.c1⟩;have hbA:sH w.heap.size w {w with tape:=τ,drawn:=d'}:=(sH.refl _ w).tp τ d';generalize({w with tape:=τ,drawn:=d'}:ah)=wA at hCA hbA⊢;go_wp2;refine rf qV hD aj rfl aba λR hR τ d'=>?_
 replace hCA:CO ({wA with tape:=τ,drawn:=d'}:ah) bc oc K q:=⟨hCA.lt,hCA.c0,hCA.c1⟩;replace hbA:=hbA.tp τ d';generalize({wA with tape:=τ,drawn:=d'}:ah)=wA at hCA hbA⊢;have c1:=aid K bc oc cap q wA ag hx hCA ahR
 go_wp2_with(first|(go_at_call 108;(with_reducible refine c1.mono ?_);rintro e w1 ⟨σ,rfl,hP,vY,uu⟩))
 have hwA:=hbA.sN;have bl:=hbA.trans (sH.of uu) hwA;generalize hbp:wA.heap.size=bp at*;clear uu hbp hCA hbA c1;refine rf qV hD aj rfl aba λR hR τ d'=>?_
 replace vY:({w1 with tape:=τ,drawn:=d'}:ah).rowIs _ _ _ _:=vY;replace bl:=bl.tp τ d';generalize({w1 with tape:=τ,drawn:=d'}:ah)=w1 at vY bl⊢;have hpb:=vY.lt;have m1':=m1 w1;have z1:=mz w1;have s1:(w1.alloc (.cells Z 34)).heap.size=w1.heap.size+1:=ax;have uu:Below w1.heap.size w1 (w1.alloc (.cells Z 34)):=(aT _ _).alloc (az _) _;go_wp2;have agy:=vY.of_block (uu.block bp hpb);have hsw:=bl.sN;replace bl:=bl.trans (sH.of uu) hsw;generalize w1.alloc (.cells Z 34)=w2 at z1 s1 agy bl⊢;generalize hbR:w1.heap.size=bR at*;clear uu m1' vY hbR;refine rf qV hD aj rfl aba λR hR τ d'=>?_
 replace agy:({w2 with tape:=τ,drawn:=d'}:ah).rowIs _ _ _ _:=agy;replace z1:({w2 with tape:=τ,drawn:=d'}:ah).rowIs _ _ _ _:=z1;replace s1:({w2 with tape:=τ,drawn:=d'}:ah).heap.size=bR+1:=s1;replace bl:=bl.tp τ d';generalize({w2 with tape:=τ,drawn:=d'}:ah)=w2 at agy z1 s1 bl⊢;have m2':=m1 w2;have z2:=mz w2;rw[s1]at m2' z2;have s2:(w2.alloc (.cells Z 34)).heap.size=bR+2:=by simp[s1]
 have tX:Below (bR+1) w2 (w2.alloc (.cells Z 34)):=(aT _ _).alloc ag _;have y0:=one (w2.alloc (.cells Z 34)) (.slice (some ⟨bR+1,0,none⟩) K K);rw[s2]at y0;have wI:=tX.alloc ag (.cells #[.slice (some ⟨bR+1,0,none⟩) K K] 28);have s3:((w2.alloc (.cells Z 34)).alloc (.cells #[.slice (some ⟨bR+1,0,none⟩) K K] 28)).heap.size=bR+3:=by simp[s1]
 have z2':=z2.alloc (.cells #[.slice (some ⟨bR+1,0,none⟩) K K] 28);have z1':=z1.of_block (wI.block bR ag);have ZB:=agy.of_block (wI.block bp ag);go_wp2;replace bl:=bl.trans (sH.of wI) ag;generalize(w2.alloc (.cells Z 34)).alloc (.cells #[.slice (some ⟨bR+1,0,none⟩) K K] 28)=w3 at y0 s3 z2' z1' ZB bl⊢;clear z1 z2 m2' tX wI s1 s2 agy;refine rf qV hD aj rfl aba λR hR τ d'=>?_
 replace ZB:({w3 with tape:=τ,drawn:=d'}:ah).rowIs _ _ _ _:=ZB;replace z1':({w3 with tape:=τ,drawn:=d'}:ah).rowIs _ _ _ _:=z1';replace z2':({w3 with tape:=τ,drawn:=d'}:ah).rowIs _ _ _ _:=z2';replace y0:({w3 with tape:=τ,drawn:=d'}:ah).rowIs _ _ _ _:=y0;replace s3:({w3 with tape:=τ,drawn:=d'}:ah).heap.size=bR+3:=s3;replace bl:=bl.tp τ d';generalize({w3 with tape:=τ,drawn:=d'}:ah)=w3 at ZB z1' z2' y0 s3 bl⊢;have arc:RD w3 K 0 q σ (λ_=>0) bR (bR+1) w3:=⟨z1'.congr λi _=>iq,z2'.congr λi _=>iq,λi h=>absurd h ag,λi j h=>absurd h ag,λi h=>absurd h ag,C9.refl _ _⟩;clear z1' z2';go_wp2
 go_loopw [25] (λvi wr=>∃t:Nat,t<=K/\vi=.int .i64 (t:Int)/\∃rb,RD w3 K t q σ rb bR (bR+1) wr) (λi _=>K-(intOf i).toNat)
 case atStart=>exact⟨0,ag,rfl,_,arc⟩
 case round=>
  clear arc;obtain⟨t,ht,rfl,rb,hRD⟩:=hrel;by_cases qK:t<K
  .have Am:(t:Int)<(K:Int):=ag;have aoX:=hRD.oth.row ZB.lt (by rintro(e|e)<;>omega) ZB;have y0r:=hRD.oth.row y0.lt (by rintro(e|e)<;>omega) y0;have g0:=aoX.cell (i:=t*2) ag;have g1:=aoX.cell (i:=t*2+1) ag;simp only[UE,show t*2/2=t by omega,show t*2%2=0 by omega,show(t*2+1)/2=t by omega,show(t*2+1)%2=1 by omega,cvv,aX,kQ,bQ,CL.d]at g0 g1;have hxt:q.ix (σ t)<128:=hx (σ t) (hP.lt t qK);have be1:=(aT wr.heap.size wr).alloc (az _) (.cells #[.int .i64 ((q.ix (σ t):Nat):Int),.slice (q.db (σ t)) q.L (q.dc (σ t))] 143)
   have n0:(wr.alloc (.cells #[.int .i64 ((q.ix (σ t):Nat):Int),.slice (q.db (σ t)) q.L (q.dc (σ t))] 143)).rowIs wr.heap.size 143 2 (λj=>if j=0 then .int .i64 ((q.ix (σ t):Nat):Int)else .slice (q.db (σ t)) q.L (q.dc (σ t))):=
     World.rowIs_alloc wr #[.int .i64 ((q.ix (σ t):Nat):Int),.slice (q.db (σ t)) q.L (q.dc (σ t))] 143 _ (λi hi=>by have:i=0\/i=1:=jq;rcases this with rfl|rfl<;>rfl)
   have y1:=y0r.alloc (.cells #[.int .i64 ((q.ix (σ t):Nat):Int),.slice (q.db (σ t)) q.L (q.dc (σ t))] 143);have hrd:=λwb=>hRD.more (wb:=wb) qK ag ag ag be1
   have c3:=ami K (q.ix (σ t)) ag hxt;have hwl:=hRD.oth.size;have hMs:wr.heap.size<(wr.alloc (.cells #[.int .i64 ((q.ix (σ t):Nat):Int),.slice (q.db (σ t)) q.L (q.dc (σ t))] 143)).heap.size:=ax;generalize hW1:wr.alloc (.cells #[.int .i64 ((q.ix (σ t):Nat):Int),.slice (q.db (σ t)) q.L (q.dc (σ t))] 143)=W1 at n0 y1 hrd be1 hMs;have a0:=n0.cell (i:=0) ag;have a1:=n0.cell (i:=1) ag;simp only[aX,kQ,bQ]at a0 a1
   have fin:∀W2,Ad W1 W2 K (uB K (q.ix (σ t)))->(W2.cell? ⟨bR,t,none⟩=some (.slice none 0 0)/\W2.frozen? ⟨bR,t,none⟩=false)/\∃W3,W2.setCell ⟨bR,t,none⟩ (.slice (some ⟨W1.heap.size,0,none⟩) K K)=W3/\W3.cell? ⟨bR+2,0,none⟩=some (.slice (some ⟨bR+1,0,none⟩) K K)/\W3.cell? ⟨wr.heap.size,1,none⟩=some (.slice (q.db (σ t)) q.L (q.dc (σ t)))/\W3.cell? ⟨bR+1,t,none⟩=some (.slice none 0 0)/\W3.frozen? ⟨bR+1,t,none⟩=false/\RD w3 K (t+1) q σ (λi=>if i=t then W1.heap.size else rb i) bR (bR+1) (W3.setCell ⟨bR+1,t,none⟩ (.slice (q.db (σ t)) q.L (q.dc (σ t)))):=λW2 Mc=>by
    obtain⟨h1,h2,h3,h4⟩:=hrd W2 Mc;refine⟨h2,_,rfl,?_,?_,h3,h4,h1⟩
    .exact((y1.of_block (Mc.below.block _ y1.lt)).setOther (a:=⟨bR,t,none⟩) (by show bR+2≠bR;omega) _).cell (i:=0) ag
    .have:=((n0.of_block (Mc.below.block _ n0.lt)).setOther (a:=⟨bR,t,none⟩) (by show wr.heap.size≠bR;omega) (.slice (some ⟨W1.heap.size,0,none⟩) K K)).cell (i:=1) ag;exact this
   clear hrd aoX y0r y1 n0 ZB y0
   go_wp2_with(first|(go_at_call 52;(with_reducible refine(c3 _).mono ?_);rintro e W2 ⟨rfl,Mc⟩;obtain⟨⟨e1,e2⟩,W3,hW3,e3,e4,e5,e6,ata⟩:=fin W2 Mc;clear fin))
   go_roundw
   case rel=>exact⟨t+1,ag,bU,_,ata⟩
   case measure=>simp[intOf];omega
  .obtain rfl:t=K:=ag;have Hg:¬((t:Int)<(t:Int)):=ag;have agz:=hRD.oth.row ZB.lt (by rintro(e|e)<;>omega) ZB;have y4:=hRD.oth.row y0.lt (by rintro(e|e)<;>omega) y0;have aiY:Gw wr bR t rb (mF t λs=>q.ix (σ s)):=⟨hRD.rows.congr λi hi=>by rw[ay hi],λi hi=>(hRD.row i hi).congr λj _=>by rw[arb],λi j hi hj hne=>hRD.inj i j hi hj hne,λi hi=>by have:=(hRD.low i hi).1;omega⟩;have ahS:=hRD.dat
   have I_:sH w.heap.size w wr:=⟨hRD.oth.os.trans bl.os,rfl,hRD.oth.output.trans bl.output,by have:=hRD.oth.size;have:=bl.sN;show w.heap.size<=_;omega,λb hb=>by have I9:b<w.heap.size:=hb;have e1:=hRD.oth.block b ag (by rintro(e|e)<;>omega);exact e1.trans (bl.block b hb)⟩
   have amj:=λi hi=>(hRD.low i hi).1
   have hsz:=hRD.oth.size;clear hRD bl;go_wp2;refine rf qV hD aj rfl aba λR hR τ d'=>?_
   replace aiY:Gw ({wr with tape:=τ,drawn:=d'}:ah) bR t rb (mF t λs=>q.ix (σ s)):=aiY.heap rfl;replace agz:({wr with tape:=τ,drawn:=d'}:ah).rowIs _ _ _ _:=agz;replace y4:({wr with tape:=τ,drawn:=d'}:ah).rowIs _ _ _ _:=y4;replace ahS:({wr with tape:=τ,drawn:=d'}:ah).rowIs _ _ _ _:=ahS;replace I_:=I_.tp τ d';replace hsz:bR+3<=({wr with tape:=τ,drawn:=d'}:ah).heap.size:=by rw[<-s3];exact hsz
   generalize({wr with tape:=τ,drawn:=d'}:ah)=wr at aiY agz y4 ahS I_ hsz⊢;have c5:=abd t bR rb _ _ wr ag aiY (anY ag hP (λi hi=>hx i hi))
   go_wp2_with(first|(go_at_call 109;(with_reducible refine c5.mono ?_);rintro e w5 ⟨h2,b2,A,B,rfl,hMB,hGj,hO5,hh2,tX⟩))
   have aoY:sH w.heap.size w w5:=⟨hO5.os.trans I_.os,rfl,hO5.output.trans I_.output,by have:=I_.sN;have:=hO5.size;show w.heap.size<=_;omega,λb hb=>by have I9:b<w.heap.size:=hb;exact(hO5.block b (by have:=I_.sN;omega) (by rintro⟨i,hi,e⟩;have:=amj i hi;omega)).trans (I_.block b hb)⟩
   have aoZ:=hO5.row agz.lt (by rintro⟨i,hi,e⟩;have:=amj i hi;omega) agz;have y5:=hO5.row y4.lt (by rintro⟨i,hi,e⟩;have:=amj i hi;omega) y4;have ao0:=hO5.row ahS.lt (by rintro⟨i,hi,e⟩;have:=amj i hi;omega) ahS;have v1:=one w5 (.slice (some ⟨h2,0,none⟩) t t);have hb6:Below w5.heap.size w5 (w5.alloc (.cells #[.slice (some ⟨h2,0,none⟩) t t] 28)):=(aT _ _).alloc (az _) _;have s6:(w5.alloc (.cells #[.slice (some ⟨h2,0,none⟩) t t] 28)).heap.size=w5.heap.size+1:=ax;have DY:bR+3<=w5.heap.size:=bu hsz hO5.size;have hw5:=aoY.sN;have auL:=hMB.head.lt;have atb:=λi hi=>(hMB.rows i hi).lt
   have agA:=aoZ.of_block (hb6.block bp aoZ.lt);have y6:=y5.of_block (hb6.block _ y5.lt);have aiZ:=ao0.of_block (hb6.block _ ao0.lt);have agB:Gw (w5.alloc (.cells #[.slice (some ⟨h2,0,none⟩) t t] 28)) h2 t b2 B:=⟨hMB.head.of_block (hb6.block _ hMB.head.lt),λi hi=>(hMB.rows i hi).of_block (hb6.block _ (hMB.rows i hi).lt),hMB.inj,hMB.sep⟩;have bl6:=aoY.trans (sH.of hb6) hw5;have Zc:=I_.sN;generalize w5.alloc (.cells #[.slice (some ⟨h2,0,none⟩) t t] 28)=w6 at v1 s6 agA y6 aiZ agB bl6⊢;generalize hbv:w5.heap.size=bv at*;clear hb6 hMB aoZ y5 ao0 aoY I_ hO5 c5 agz y4 ahS aiY hbv;refine rf qV hD aj rfl aba λR hR τ d'=>?_
   replace agB:Gw ({w6 with tape:=τ,drawn:=d'}:ah) h2 t b2 B:=agB.heap rfl;replace agA:({w6 with tape:=τ,drawn:=d'}:ah).rowIs _ _ _ _:=agA;replace y6:({w6 with tape:=τ,drawn:=d'}:ah).rowIs _ _ _ _:=y6;replace aiZ:({w6 with tape:=τ,drawn:=d'}:ah).rowIs _ _ _ _:=aiZ;replace v1:({w6 with tape:=τ,drawn:=d'}:ah).rowIs _ _ _ _:=v1;replace s6:({w6 with tape:=τ,drawn:=d'}:ah).heap.size=bv+1:=s6;replace bl6:=bl6.tp τ d';generalize({w6 with tape:=τ,drawn:=d'}:ah)=w6 at agB agA y6 aiZ v1 s6 bl6⊢;have m5:=m1 w6;rw[s6]at m5
   have z7:(w6.alloc (.cells Z 34)).heap[bv+1]?=some (.cells Z 34):=by have:=fC w6 (.cells Z 34);rwa[s6]at this
   have s7:(w6.alloc (.cells Z 34)).heap.size=bv+2:=by simp[s6]
   have hb7:Below (bv+1) w6 (w6.alloc (.cells Z 34)):=(aT _ _).alloc ag _;go_wp2;have v3:=one (w6.alloc (.cells Z 34)) (.slice (some ⟨bv+1,0,none⟩) t t);rw[s7]at v3;have hb8:=hb7.alloc ag (.cells #[.slice (some ⟨bv+1,0,none⟩) t t] 28);have z8:((w6.alloc (.cells Z 34)).alloc (.cells #[.slice (some ⟨bv+1,0,none⟩) t t] 28)).heap[bv+1]?=some (.cells Z 34):=(dI _ _ _ ag).trans z7;have s8:((w6.alloc (.cells Z 34)).alloc (.cells #[.slice (some ⟨bv+1,0,none⟩) t t] 28)).heap.size=bv+3:=by simp[s6]
   generalize(w6.alloc (.cells Z 34)).alloc (.cells #[.slice (some ⟨bv+1,0,none⟩) t t] 28)=w8 at v3 hb8 z8 s8⊢;have st:∀{b o:Nat}{v:ai},w6.cell? ⟨b,o,none⟩=some v->w8.cell? ⟨b,o,none⟩=some v:=λ{b o v} hc=>(hb8.cell (p:=⟨b,o,none⟩) (by have:=aib hc;show b<_;omega)).trans hc
   have hpf:U5 t q σ bp (bR+2) (bR+1) bv h2 (bv+2) (bv+1) b2 B w8:=by
    refine⟨λx hx=>?_,λx hx=>?_,st (y6.cell (i:=0) ag),λx hx=>?_,st (v1.cell (i:=0) ag),λx hx=>st (agB.head.cell hx),λx j hx hj=>st ((agB.rows x hx).cell hj),v3.cell (i:=0) ag,by rw[hZ];exact z8,⟨ag,ag,ag,ag,ag,λx hx=>by have:=atb x hx;omega,ag,ag⟩,⟨A,hGj⟩,hP⟩
    .have:=agA.cell (i:=x*2) ag;simp only[UE,show x*2/2=x by omega,show x*2%2=0 by omega,cvv,aX]at this;exact st this
    .have:=agA.cell (i:=x*2+1) ag;simp only[UE,show(x*2+1)/2=x by omega,show(x*2+1)%2=1 by omega,cvv,kQ,bQ]at this;exact st this
    .have:=aiZ.cell hx;rw[ay hx]at this;exact st this
   exact qJ σ bp (bR+2) (bR+1) bv h2 (bv+2) (bv+1) b2 B _ w8 (amh rfl) hpf (λb hb=>ag) ⟨ag,ag,ag,ag,ag,λx hx=>by have:=tX x hx;omega⟩ (bl6.trans (sH.of hb8) ag)
