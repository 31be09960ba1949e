import Derived.Test.YtnbflnamlpodcaaGreatDoorCoS
import Derived.Test.YtnbflnamlpodcaaGreatDoorSvJ
set_option maxHeartbeats 4000000
set_option maxRecDepth 100000
namespace Go.Proofs.Y
open Go.Proofs.Tryz
open Go.Conc Go.ConcN Go.RowKit Go.Gh Go.Conc.Lib Go.ConcR.Gen Go.ConcN.Gen
open Go.ConcR (Payload)
section
variable [Payload][qV]{main:Bool}{Wg C k B L:Nat}{E:Env}
theorem anR(_hE:QJ E k L){s0 j bj bc:Nat}{v0 v1:Value}{w:World}(hj:j<k)(h:SG Wg C k B L E s0 j bj bc (.int .i64 ((j:Nat):Int)) v0 v1 w):
  WIn Wg C k B (E.cap bj j) k L j (E.ws j) E.cs (w.out (book w.heap.size [bj])):=by
 have hf:=h.sf.low;have lt:∀{b:Nat},Lo Wg C B b->b<w.heap.size:=λhb=>aK hb.1 h.sf.bs.hB
 refine⟨⟨pz,h.sf.bs.hC,h.sf.bs.hB,λb hb=>avG⟩,h.sf.pay,.inr hf.la,hf.va,.inl (.inl avF),h.cj.1,
  .inr hf.lv,hf.vv,.inr hf.lW,hf.vW j hj,.inr hf.ld,hf.vd,⟨.inr (hf.lr j hj),lt (hf.lr j hj),.inr hf.lD,lt hf.lD,hf.hw j hj,hf.hc,λc hc=>⟨.inr (hf.xP c hc).1,lt (hf.xP c hc).1,(hf.xP c hc).2⟩⟩⟩
theorem ah0{cs:List Frame}{j:Nat}(hj:j<k)(JR:k<=128)(m:Nat):∃n,∀(T:Array Value)(w:World)(s0 j':Nat)(Stop:Goroutine->World->Prop),TS E Wg k j T->SF Wg C k B L E s0 j' w->
  (∀T' w',TS E Wg k (j+1) T'->SF Wg C k B L E s0 j' w'->(Goes prog true (Ro Wg C k B (λi=>¬E.Dx k i)) (Dg Wg C k B (λi=>¬E.Dx k i))) Stop m (G ((base 67).at ⟨T',[]⟩ (.code uY::.inLoop uY::.inBlock 2::[.code I8])) cs) w')->
  (Goes prog true (Ro Wg C k B (λi=>¬E.Dx k i)) (Dg Wg C k B (λi=>¬E.Dx k i))) Stop n (G ((base 67).at ⟨T,[]⟩ (.code (.region 20 o20 false)::.inLoop uY::.inBlock 2::[.code I8])) cs) w:=by
 co_apply Exists.intro;rintro T w s0 j' Stop ⟨v0,v1,v2,v3,v4,v5,v6,v8,v9,VE,Xb,SL,SN,SQ,Pn,Po,v20,v21,v22,Tv,v24,Tz,v26,ZU,v28,v29,v30,v31,v32,v33,v34,v35,v36,v37,v38,v39,v40,v41,v42,v43,v44,v45,v46,v50,v51,v52,v53,v54,v55,v56,v57,v58,v59,v60,v61,v62,v63,v64,v65,v66,v67,v68,rfl⟩ hF acp;have BB:IntKind.i64.wrap ((j:Int)+1)=((j+1:Nat):Int):=gV;generalize[Item.inBlock 2,Item.code I8]=kk at acp⊢
 (co_apply ay rfl;intro _ qC;replace hF:=SF.rely hF qC;clear qC;rw[cO,n20];simp only[aI,List.range,List.range.loop];refine⟨aG p_ _,?_⟩;simp only[o20,q20])
 (co_apply ay rfl;intro _ qC;replace hF:=SF.rely hF qC;clear qC
  refine goes_oper_k rfl rfl au (λKq uA=>?_)
  (skip)
  go_simp
  try(unfold stored;go_simp)
  refine uA _ _ ⟨?_,?_⟩
  ·(co_quiet p_)
  clear uA Kq
  try walk_nrm)
 (co_apply ay rfl;intro _ qC;replace hF:=SF.rely hF qC;clear qC
  refine goes_oper_k rfl rfl au (λKq uA=>?_)
  (skip)
  go_simp
  try(unfold stored;go_simp)
  refine uA _ _ ⟨?_,?_⟩
  ·(co_quiet p_)
  clear uA Kq
  try walk_nrm)
 (co_apply ay rfl;intro _ qC;replace hF:=SF.rely hF qC;clear qC;rw[aH];simp only[aI];refine⟨aG p_ _,?_⟩)
 (co_apply ay rfl;intro _ qC;replace hF:=SF.rely hF qC;clear qC;rw[stepG_inLoop];simp only[aI];refine⟨aG p_ _,?_⟩)
 exact acp _ _ ⟨_,_,_,_,_,_,_,_,_,_,_,_,_,_,_,_,_,_,_,_,_,_,_,_,_,_,_,_,_,_,_,_,_,_,_,_,_,_,_,_,_,_,_,_,_,_,_,_,_,_,_,_,_,_,_,_,_,_,_,_,_,_,rfl⟩ hF
theorem anS(hE:QJ E k L){cs:List Frame}{j:Nat}(hj:j<k)(hmj:E.px j≠j)(r:Nat){m1:Nat}
  (ih:∀(T:Array Value)(w:World)(ids:List Nat)(s0:Nat),TS E Wg k (j+1) T->SF Wg C k B L E s0 (j+1) w->(∀x,x∈ids↔E.Dx k x/\x<j+1)->(Goes prog true (Ro Wg C k B (λi=>¬E.Dx k i)) (Dg Wg C k B (λi=>¬E.Dx k i))) (StS Wg C k B L E cs r ids) m1 (G ((base 67).at ⟨T,[]⟩ (.code uY::.inLoop uY::.inBlock 2::[.code I8])) cs) w):
  ∃n,∀(T:Array Value)(w:World)(ids:List Nat)(s0 bj bc:Nat)(v0 v1:Value),TS2 E Wg k j bj bc T->SG Wg C k B L E s0 j bj bc (.int .i64 ((j:Nat):Int)) v0 v1 w->(∀x,x∈ids↔E.Dx k x/\x<j)->
   (Goes prog true (Ro Wg C k B (λi=>¬E.Dx k i)) (Dg Wg C k B (λi=>¬E.Dx k i))) (StS Wg C k B L E cs (r+1) ids) n (G ((base 67).at ⟨T,[]⟩ (.code afJ::.code rGo::.inBlock 3::.code (.region 20 o20 false)::.inLoop uY::.inBlock 2::[.code I8])) cs) w:=by
 obtain⟨mw,hmw⟩:=arl (Wg:=Wg) (C:=C) (B:=B) k L hE.k0 hE.k1 hE.hL j hj;obtain⟨m2,qH⟩:=ah0 (Wg:=Wg) (C:=C) (k:=k) (B:=B) (L:=L) (E:=E) (cs:=cs) hj hE.k1 m1;co_apply Exists.intro;rintro T w ids s0 bj bc v0x v1x ⟨v0,v1,v2,v3,v4,v5,v6,v8,v9,SL,SN,SQ,Pn,Po,v20,v21,v22,Tv,v24,Tz,v26,ZU,v28,v29,v30,v31,v32,v33,v34,v35,v36,v37,v38,v39,v40,v41,v42,v43,v44,v45,v46,v50,v51,v52,v53,v54,v55,v56,v58,v59,v60,v61,v62,v63,v64,v65,v66,v67,v68,rfl⟩ hF Bf;have apr:decide (((E.px j:Nat):Int)=((j:Nat):Int))=false:=az;rw[apr];generalize hkk:Item.inBlock 3::Item.code (Code.region 20 o20 false)::Item.inLoop uY::[Item.inBlock 2,Item.code I8]=kk;unfold afJ rGo
 (co_apply ay rfl;intro _ qC;replace hF:=SG.rely hF qC;clear qC)
 rw[jY (t:=false) rfl];simp only[aI,bu,aU];refine⟨aG p_ _,?_⟩
 (co_apply ay rfl;intro _ qC;replace hF:=SG.rely hF qC;clear qC;rw[dM];simp only[aI];refine⟨aG p_ _,?_⟩)
 (co_apply ay rfl;intro _ qC;replace hF:=SG.rely hF qC;clear qC;rw[aC];simp only[aI];refine⟨aG p_ _,?_⟩)
 (co_apply ay rfl;intro _ qC;replace hF:=SG.rely hF qC;clear qC;rw[cO,n18];simp only[aI,List.range,List.range.loop];refine⟨aG p_ _,?_⟩;simp only[o18,q18])
 (co_apply ay rfl;intro _ qC;replace hF:=SG.rely hF qC;clear qC)
 refine goes_call rfl rfl au rfl L8.f_add (nm_add link) rfl ⟨aG p_ _,?_⟩
 walk_nrmf addFn
 refine bI (n:=0) λw₁ hR=>?_
 replace hF:=hF.rely hR;clear hR;have hA:=λ(b₀:Frame)(a₀:Act)(ops₀:Array Oper)(i₀:Nat)(rest₀:List Nat)(k₀:List Item)=>anT (L:=link) (P:=prog) (Wg:=Wg) (b₀:=b₀) (a₀:=a₀) (ops₀:=ops₀) (i₀:=i₀) (rest₀:=rest₀) (k₀:=k₀) (cs:=cs) L8;simp only[body_add,addFn,aB]at hA;refine⟨rfl,_,0+1+1+1,hA _ _ _ _ _ _,?_⟩;clear hA;walk_nrm
 (co_apply ay rfl;intro _ qC;replace hF:=SG.rely hF qC;clear qC;rw[aH];simp only[aI];refine⟨aG p_ _,?_⟩)
 (co_apply ay rfl;intro _ qC;replace hF:=SG.rely hF qC;clear qC;rw[cO,n19];simp only[aI,List.range,List.range.loop];refine⟨aG p_ _,?_⟩;simp only[o19,q19])
 (co_apply ay rfl;intro _ qC;replace hF:=SG.rely hF qC;clear qC
  refine goes_oper_k rfl rfl au (λKq uA=>?_)
  (skip)
  go_simp
  try(unfold stored;go_simp)
  refine uA _ _ ⟨?_,?_⟩
  ·(co_quiet p_)
  clear uA Kq
  try walk_nrm)
 refine bI (n:=0) λw₂ r₂=>?_
 replace hF:=hF.rely r₂;clear r₂;refine⟨rfl,?_⟩;rw[stepG_spawn (d:=aaw Wg (E.cap bj j)) (w':=w₂) (f:=.func 111) (c:=QA Wg (E.cap bj j)) rfl rfl au (by simp[go_sem,aaw,QA,Env.cap,Deferred.ofValue]) rfl];generalize hL:listed _ _ _ _ _=Lx
 have hLx:Lx=#[]:=by rw[<-hL];simp[listed,go_sem,seen,Deferred.ofValue];rfl
 subst hLx;clear hL
 refine⟨_,_,j,[bj],rfl,rfl,λhx=>by have:=(Bf j).1 hx;omega,⟨hj,hmj⟩,λb hb=>avY,
  ⟨mw,hmw _ _ _ _ _ (hE.wl j hj).1 hE.len (hE.wl j hj).2 hE.cl rfl (anR hE hj hF)⟩,λl' Fg=>(ahR r _ _ _).2 ⟨m2+1+1,?_⟩⟩
 walk_nrm;have hS:SF Wg C k B L E s0 (j+1) (w₂.out (book w₂.heap.size l')):=hF.sf.book ⟨hj,hmj⟩ (λb hb=>hF.sf.bs.lt ((Fg b).1 hb).1) (λb hb qE=>(Fg b).2 ⟨hb,λhx=>by rw[dR]at hx;have:=hF.lj;omega⟩);clear hF;subst hkk
 (co_apply ay rfl;intro _ qC;replace hS:=SF.rely hS qC;clear qC;rw[aH];simp only[aI];refine⟨aG p_ _,?_⟩)
 (co_apply ay rfl;intro _ qC;replace hS:=SF.rely hS qC;clear qC;rw[stepG_inBlock];simp only[aI];refine⟨aG p_ _,?_⟩)
 refine qH _ _ s0 (j+1) _ ⟨_,_,_,_,_,_,_,_,_,_,_,_,_,_,_,_,_,_,_,_,_,_,_,_,_,_,_,_,_,_,_,_,_,_,_,_,_,_,_,_,_,_,_,_,_,_,_,_,_,_,_,_,_,_,_,_,_,_,_,_,_,_,rfl⟩ hS (λT' w' h1 h2=>ih T' w' (j::ids) s0 h1 h2 (λx=>?_));rw[dA,Bf];constructor
 .rintro(rfl|h)
  .exact⟨⟨hj,hmj⟩,ae⟩
  .exact⟨h.1,ae⟩
 .rintro⟨h1,h2⟩;by_cases hx:x=j
  .exact .inl hx
  .exact .inr ⟨h1,ae⟩
theorem anU(hE:QJ E k L){cs:List Frame}{j:Nat}(hj:j<k)(hpj:E.px j=j){c:Ub}(hcj:E.cs[j]?=some c)(r:Nat){m1:Nat}
  (ih:∀(T:Array Value)(w:World)(ids:List Nat)(s0:Nat),TS E Wg k (j+1) T->SF Wg C k B L E s0 (j+1) w->(∀x,x∈ids↔E.Dx k x/\x<j+1)->(Goes prog true (Ro Wg C k B (λi=>¬E.Dx k i)) (Dg Wg C k B (λi=>¬E.Dx k i))) (StS Wg C k B L E cs r ids) m1 (G ((base 67).at ⟨T,[]⟩ (.code uY::.inLoop uY::.inBlock 2::[.code I8])) cs) w):
  ∃n,∀(T:Array Value)(w:World)(ids:List Nat)(s0 bj bc:Nat)(v0:Value),TS2 E Wg k j bj bc T->SG Wg C k B L E s0 j bj bc (.int .i64 ((j:Nat):Int)) v0 (.slice c.bs L c.co) w->(∀x,x∈ids↔E.Dx k x/\x<j)->
   (Goes prog true (Ro Wg C k B (λi=>¬E.Dx k i)) (Dg Wg C k B (λi=>¬E.Dx k i))) (StS Wg C k B L E cs r ids) n (G ((base 67).at ⟨T,[]⟩ (.code afJ::.code rGo::.inBlock 3::.code (.region 20 o20 false)::.inLoop uY::.inBlock 2::[.code I8])) cs) w:=by
 obtain⟨q,hq⟩:=ahP (main:=true) (Wg:=Wg) (C:=C) (n:=k) (B:=B) (Cl:=λi=>¬E.Dx k i) L hE.hL;obtain⟨m2,qH⟩:=ah0 (Wg:=Wg) (C:=C) (k:=k) (B:=B) (L:=L) (E:=E) (cs:=cs) hj hE.k1 m1;have T:=p_ (Wg:=Wg) (C:=C) (n:=k) (B:=B) (Cl:=λi=>¬E.Dx k i);have sF:=iR hcj;have Yt:¬E.Dx k j:=λh=>h.2 hpj
 co_apply Exists.intro;rintro T' w ids s0 bj bc v0x ⟨v0,v1,v2,v3,v4,v5,v6,v8,v9,SL,SN,SQ,Pn,Po,v20,v21,v22,Tv,v24,Tz,v26,ZU,v28,v29,v30,v31,v32,v33,v34,v35,v36,v37,v38,v39,v40,v41,v42,v43,v44,v45,v46,v50,v51,v52,v53,v54,v55,v56,v58,v59,v60,v61,v62,v63,v64,v65,v66,v67,v68,rfl⟩ hF Bf;have apr:decide (((E.px j:Nat):Int)=((j:Nat):Int))=true:=by rw[hpj];simp
 have hiI:(j:Int)<(k:Int):=ae;rw[apr];generalize hkk:Item.code rGo::Item.inBlock 3::Item.code (Code.region 20 o20 false)::Item.inLoop uY::[Item.inBlock 2,Item.code I8]=kk;unfold afJ
 (co_apply ay rfl;intro _ qC;replace hF:=SG.rely hF qC;clear qC)
 rw[jY (t:=true) rfl];simp only[aI,aF];refine⟨aG p_ _,?_⟩
 (co_apply ay rfl;intro _ qC;replace hF:=SG.rely hF qC;clear qC;rw[aC];simp only[aI];refine⟨aG p_ _,?_⟩)
 simp only[o17,q17];co_apply wpC_goes (Q:=λe a' w'=>e=.normal/\a'.defers=[]/\TS E Wg k j a'.tmps/\∃s,SF Wg C k B L E s (j+1) w') (Ak T aeA (S:=SG Wg C k B L E s0 j bj bc (.int .i64 ((j:Nat):Int)) v0x (.slice c.bs L c.co)) (lst:=6) (nf:=q) ag ?any) rfl au ?cont
 case any=>
  intro w₁ h₁
  replace hF:SG Wg C k B L E s0 j bj bc (.int .i64 ((j:Nat):Int)) v0x (.slice c.bs L c.co) {w₁ with drawn:=w₁.drawn+1}:=by have:=hF.rely h₁;exact⟨⟨⟨this.sf.bs.tg,this.sf.bs.hC,this.sf.bs.hB,this.sf.bs.ow⟩,this.sf.pay,this.sf.low.AV (λ_ _ _ _=>rfl),this.sf.sb,this.sf.dn⟩,this.lj,this.lc,this.ne,this.mj,this.mc,this.hj,this.hc⟩
  clear h₁;have Nq:∀x y,SG Wg C k B L E s0 j bj bc (.int .i64 ((j:Nat):Int)) v0x (.slice c.bs L c.co) x->Ro Wg C k B (λi=>¬E.Dx k i) x y->SG Wg C k B L E s0 j bj bc (.int .i64 ((j:Nat):Int)) v0x (.slice c.bs L c.co) y:=λ_ _ h r=>h.rely r
  have Ry:∀(a:Act)(x y:World),(Exit.normal=.normal/\a.defers=[]/\TS E Wg k j a.tmps/\∃s,SF Wg C k B L E s (j+1) x)->Ro Wg C k B (λi=>¬E.Dx k i) x y->(Exit.normal=.normal/\a.defers=[]/\TS E Wg k j a.tmps/\∃s,SF Wg C k B L E s (j+1) y):=λa x y ⟨h1,h2,h3,s,h4⟩ r=>⟨h1,h2,h3,s,h4.rely r⟩
  generalize{w₁ with drawn:=w₁.drawn+1}=w2 at hF⊢;simp only[dY,bQ,dB,Nat.reduceAdd,aT]
  (co_applyP sD T Nq Ry (i:=0) rfl ag ag ag ag ag (.inl ⟨ax,λ_ hw=>⟨run_eq_of ?aar,?Ud⟩⟩) hF ?ahJ
   case aar=>
    intro Kq uA
    (have h1:=hw.sf.low.va)
    exact awv
   case Ud=>
    (have h1:=hw.sf.low.va)
    (refine tK (b:=E.ba) (.inr hw.sf.low.la) (hw.sf.bs.zI (.inr hw.sf.low.la)) ?_;co_evs (exact⟨_,rfl,rfl⟩))
   try walk_nrm)
  (co_applyP sD T Nq Ry (i:=1) rfl ag ag ag ag ag (.inl ⟨ax,λ_ hw=>⟨run_eq_of ?aas,?Ue⟩⟩) hF ?ahK
   case aas=>
    intro Kq uA
    (have h1:=hw.cj.1)
    exact awv
   case Ue=>
    (have h1:=hw.cj.1)
    (refine tK (.inl hw.mj) (hw.sf.bs.lt hw.mj) ?_;co_evs (exact⟨_,rfl,rfl⟩))
   try walk_nrm)
  (co_applyP sD T Nq Ry (i:=2) rfl ag ag ag ag ag (.inl ⟨ax,λ_ hw=>⟨run_eq_of ?aat,?Uf⟩⟩) hF ?ahL
   case aat=>
    intro Kq uA
    (skip)
    exact awv
   case Uf=>
    (skip)
    (co_still T)
   try walk_nrm)
  (co_applyP sD T Nq Ry (i:=3) rfl ag ag ag ag ag (.inl ⟨ax,λ_ hw=>⟨run_eq_of ?aau,?Ug⟩⟩) hF ?ahM
   case aau=>
    intro Kq uA
    (have h1:=hw.cc.1.2)
    exact awv
   case Ug=>
    (have h1:=hw.cc.1.2)
    (refine tK (.inl hw.mc) (hw.sf.bs.lt hw.mc) ?_;co_evs (exact⟨_,rfl,rfl⟩))
   try walk_nrm)
  have xP:=hF.sf.low.xP c sF;refine F5 (i:=4) ag ⟨_,rfl,.inr (.inl ⟨ax,_,_,_,(λv w'=>∃N,v=.slice (some ⟨N,0,none⟩) L L/\CG Wg C k B (λi=>¬E.Dx k i) w2 N c.ys w'),rfl,by walk_nrm;exact hq w2 c.bs c.bo c.oo c.co c.ys xP.2.1 (hE.cl c sF).1 hF.sf.bs (.inr xP.1) xP.2.2,?_⟩)⟩;rintro v w' ⟨N,rfl,hg⟩;have hN:N≠C/\B<=N:=by have:=hg.lo;have:=hF.sf.bs.hC;have:=hF.sf.bs.hB;omega
  replace hF:=hF.ex hg.bs hg.ex;have hx:=And.intro hg.mn hg.hx;clear hg;refine⟨λ_=>hF,?_⟩;walk_nrm;refine Be (i:=5) ag rfl ax (λw₁ hR K hK=>?_);replace hF:=hF.rely hR;replace hx:=And.intro ((hR.yj N).2 hx.1) ((hR.mine N hx.1).trans hx.2);clear hR;go_simp;refine hK _ _ ⟨?_,λ_=>hF,?_⟩
  .co_still T
  clear hK K;walk_nrm;refine Be (i:=6) ag rfl ax (λw₁ hR K hK=>?_);replace hF:=hF.rely hR;replace hx:=And.intro ((hR.yj N).2 hx.1) ((hR.mine N hx.1).trans hx.2);clear hR
  obtain⟨u,hu1,hu2⟩:∃u,w₁.cell? ⟨C,j,none⟩=some u/\w₁.frozen? ⟨C,j,none⟩=false:=by obtain⟨arr,h1,h2⟩:=hF.sf.pay;exact⟨arr[j]' ae,by simp[World.cell?,h1,h2,hj],auD⟩
  go_simp
  try(unfold stored;go_simp)
  refine hK _ _ ⟨?_,λh=>absurd rfl h,?_⟩
  .refine YJ (Cl:=λi=>¬E.Dx k i) hF.sf.pay hF.sf.bs.hC (i:=j) Yt _ ?_
   co_evs (exact⟨_,rfl⟩)
  clear hK K;walk_nrm;exact JZ ag ⟨rfl,rfl,⟨_,_,_,_,_,_,_,_,_,_,_,_,_,_,_,_,_,_,_,_,_,_,_,_,_,_,_,_,_,_,_,_,_,_,_,_,_,_,_,_,_,_,_,_,_,_,_,_,_,_,_,_,_,_,_,_,_,_,_,_,_,_,rfl⟩,_,hF.sf.cell hj hcj hx.1 hN hx.2⟩ _
 case cont=>
  rintro e a' w' ⟨rfl,hd,hT,s,hS⟩;obtain⟨T',ds⟩:=a';obtain rfl:ds=[]:=hd;show Goes _ _ _ _ _ _ (G ((base 67).at ⟨T',[]⟩ (.code (.exit 3)::kk)) cs) w';subst hkk
  (co_apply ay rfl;intro _ qC;replace hS:=SF.rely hS qC;clear qC)
  refine goes_exit rfl ?_;refine⟨aG p_ _,?_⟩;refine qH _ _ s (j+1) _ hT hS (λT' w' h1 h2=>ih T' w' ids s h1 h2 (λx=>?_));rw[Bf];constructor
  .rintro⟨h1,h2⟩;exact⟨h1,ae⟩
  .rintro⟨h1,h2⟩;by_cases hx:x=j
   .exact absurd (hx▸h1) Yt
   .exact⟨h1,ae⟩
def Um(E:Env):Nat->Nat->Nat
 |_,0=>0
 |j,d+1=>if E.px j=j then Um E (j+1) d else Um E (j+1) d+1
theorem spj(hE:QJ E k L){cs:List Frame}:∀(d j:Nat),j+d=k->∃m,∀(T:Array Value)(w:World)(ids:List Nat)(s0:Nat),TS E Wg k j T->SF Wg C k B L E s0 j w->(∀x,x∈ids↔E.Dx k x/\x<j)->
  (Goes prog true (Ro Wg C k B (λi=>¬E.Dx k i)) (Dg Wg C k B (λi=>¬E.Dx k i))) (StS Wg C k B L E cs (Um E j d) ids) m (G ((base 67).at ⟨T,[]⟩ (.code uY::.inLoop uY::.inBlock 2::[.code I8])) cs) w
 |0,j,hd=>by obtain rfl:j=k:=ae;obtain⟨m,hm⟩:=anH (Wg:=Wg) (C:=C) (k:=j) (B:=B) (L:=L) (E:=E) (cs:=cs);exact⟨m,λT w ids s0 hT hF Bf=>hm T w ids s0 hT hF (λx=>(Bf x).trans ⟨λh=>h.1,λh=>⟨h,h.1⟩⟩)⟩
 |d+1,j,hd=>by
  obtain⟨m1,ih⟩:=spj hE d (j+1) ae;have hj:j<k:=ae;obtain⟨c,hcj⟩:∃c,E.cs[j]?=some c:=⟨E.cs[j]'(by rw[hE.len];exact hj),ai⟩;by_cases hp:E.px j=j
  .obtain⟨m2,h2⟩:=anU hE hj hp hcj (Um E (j+1) d) ih;obtain⟨m3,h3⟩:=ahT (Wg:=Wg) (C:=C) (B:=B) hE (cs:=cs) hj hcj m2;refine⟨m3,λT w ids s0 hT hF Bf=>h3 T w s0 _ hT hF λT' w' s1 bj bc ZV hG=>?_⟩;rw[Um,aj hp];exact h2 T' w' ids s1 bj bc _ ZV hG Bf
  .obtain⟨m2,h2⟩:=anS hE hj hp (Um E (j+1) d) ih;obtain⟨m3,h3⟩:=ahT (Wg:=Wg) (C:=C) (B:=B) hE (cs:=cs) hj hcj m2;refine⟨m3,λT w ids s0 hT hF Bf=>h3 T w s0 _ hT hF λT' w' s1 bj bc ZV hG=>?_⟩;rw[Um,ah hp];exact h2 T' w' ids s1 bj bc _ _ ZV hG Bf
end
end Go.Proofs.Y
namespace Go.Proofs.Y
open Go.Proofs.Tryz
open Go.RowKit Go.Deep Go.Lf Go.Conc
def amY:Code->Code| .seq x _=>x|c=>c
def QM:Code->Code| .seq _ y=>y|c=>c
def amZ:Code->Array Oper| .region _ o _=>o|_=>#[]
theorem aax:∃fn,prog.funcs[67]?=some fn:=⟨_,func67⟩
noncomputable def Ja:Code:=Tryz.f67.body.getD .skip
noncomputable def ZW:Code:=QM (QM (QM (QM (QM (QM (QM Ja))))))
def mF(K:Nat)(px:Nat->Nat)(i j:Nat):F:=Fin.ofNat 256 (uj K (px i) j)
theorem ap0(K:Nat)(px:Nat->Nat)(i j:Nat):fv (mF K px i) j=.int .u8 ((uj K (px i) j:Nat):Int):=by unfold fv mF;rw[show(Fin.ofNat 256 (uj K (px i) j)).val=uj K (px i) j from aZ Dw]
theorem am0{K:Nat}{ix σ:Nat->Nat}(hK:K<=128)(hP:MH K ix σ)(hx:∀i,i<K->ix i<128):F.Sq K (λs=>Fin.ofNat 256 (ix (σ s))) (mF K λs=>ix (σ s)):=by
 have hv:∀s,s<K->(Fin.ofNat 256 (ix (σ s))).val=ix (σ s):=λs hs=>aZ (by have:=hx _ (hP.lt s hs);omega)
 refine⟨λs hs qE=>?_,λs hs VF j hj=>?_,λs j hs hj hne e=>?_,ae⟩
 .rw[hv s hs]at qE⊢;have e:=hP.on s hs qE;refine⟨e,λj _=>d_ ?_⟩;show uj K (ix (σ s)) j%256=_;rw[e,aZ Dw];unfold uj;rw[aj hs];split<;>rfl
 .rw[hv s hs]at VF;refine d_ ?_;show uj K (ix (σ s)) j%256=inv ((Fin.ofNat 256 (ix (σ s))).val^^^(Fin.ofNat 256 j).val);have hxj:=hx _ (hP.lt s hs);rw[hv s hs,show(Fin.ofNat 256 j).val=j from aZ ae,aZ Dw];unfold uj;rw[ah ae,aZ (by have:=PQ hxj (show j<128 by omega);omega)]
 .have:=aP Fin.val e;rw[hv s hs,hv j hj]at this;exact hP.inj s j hs hj hne this
structure RD(w1:World)(K t:Nat)(q:CL)(σ rb:Nat->Nat)(bR bD:Nat)(w:World):Prop where
 rows:w.rowIs bR 34 K (λi=>if i<t then .slice (some ⟨rb i,0,none⟩) K K else .slice none 0 0)
 dat:w.rowIs bD 34 K (λi=>if i<t then q.d (σ i)else .slice none 0 0)
 row:∀i,i<t->w.rowIs (rb i) 5 K (λj=>.int .u8 ((uj K (q.ix (σ i)) j:Nat):Int))
 inj:∀i j,i<t->j<t->i≠j->rb i≠rb j
 low:∀i,i<t->w1.heap.size<=rb i/\rb i<w.heap.size
 Z9:BX (λb=>b=bR\/b=bD) w1 w
def alu(bp K Dy bv ba:Nat)(T:Array Value):Prop:=∃f:Nat->Value,T=#[f 0,f 1,f 2,f 3,f 4,.slice (some ⟨bp,0,none⟩) K K,f 6,.pointer (some ⟨Dy,0,none⟩),f 8,f 9,.pointer (some ⟨bv,0,none⟩),.pointer (some ⟨ba,0,none⟩),f 12,f 13,f 14,f 15,f 16,f 17,f 18,f 19,f 20,f 21,f 22,f 23,f 24,f 25,f 26,f 27,f 28,f 29,f 30,f 31,f 32,f 33,f 34,f 35,f 36,f 37,f 38,f 39,f 40,f 41,f 42,f 43,f 44,f 45,f 46,f 47,f 48,f 49,f 50,f 51,f 52,f 53,f 54,f 55,f 56,f 57,f 58,f 59,f 60,f 61,f 62,f 63,f 64,f 65,f 66,f 67,f 68]
theorem alv{bp K Dy bv ba:Nat}{T:Array Value}(h:T=#[T.getD 0 undef,T.getD 1 undef,T.getD 2 undef,T.getD 3 undef,T.getD 4 undef,.slice (some ⟨bp,0,none⟩) K K,T.getD 6 undef,.pointer (some ⟨Dy,0,none⟩),T.getD 8 undef,T.getD 9 undef,.pointer (some ⟨bv,0,none⟩),.pointer (some ⟨ba,0,none⟩),T.getD 12 undef,T.getD 13 undef,T.getD 14 undef,T.getD 15 undef,T.getD 16 undef,T.getD 17 undef,T.getD 18 undef,T.getD 19 undef,T.getD 20 undef,T.getD 21 undef,T.getD 22 undef,T.getD 23 undef,T.getD 24 undef,T.getD 25 undef,T.getD 26 undef,T.getD 27 undef,T.getD 28 undef,T.getD 29 undef,T.getD 30 undef,T.getD 31 undef,T.getD 32 undef,T.getD 33 undef,T.getD 34 undef,T.getD 35 undef,T.getD 36 undef,T.getD 37 undef,T.getD 38 undef,T.getD 39 undef,T.getD 40 undef,T.getD 41 undef,T.getD 42 undef,T.getD 43 undef,T.getD 44 undef,T.getD 45 undef,T.getD 46 undef,T.getD 47 undef,T.getD 48 undef,T.getD 49 undef,T.getD 50 undef,T.getD 51 undef,T.getD 52 undef,T.getD 53 undef,T.getD 54 undef,T.getD 55 undef,T.getD 56 undef,T.getD 57 undef,T.getD 58 undef,T.getD 59 undef,T.getD 60 undef,T.getD 61 undef,T.getD 62 undef,T.getD 63 undef,T.getD 64 undef,T.getD 65 undef,T.getD 66 undef,T.getD 67 undef,T.getD 68 undef]):alu bp K Dy bv ba T:=⟨λi=>T.getD i undef,h⟩
structure Un(K:Nat)(q:CL)(σ:Nat->Nat)(bp Dy bD bv h2 ba C:Nat)(b2:Nat->Nat)(B:Nat->Nat->F)(w:World):Prop where
 p0:∀t,t<K->w.cell? ⟨bp,t*2,none⟩=some (.int .i64 ((q.ix (σ t):Nat):Int))
 p1:∀t,t<K->w.cell? ⟨bp,t*2+1,none⟩=some (q.d (σ t))
 vd:w.cell? ⟨Dy,0,none⟩=some (.slice (some ⟨bD,0,none⟩) K K)
 hD:∀t,t<K->w.cell? ⟨bD,t,none⟩=some (q.d (σ t))
 vv:w.cell? ⟨bv,0,none⟩=some (.slice (some ⟨h2,0,none⟩) K K)
 hW:∀t,t<K->w.cell? ⟨h2,t,none⟩=some (.slice (some ⟨b2 t,0,none⟩) K K)
 hw:∀t j,t<K->j<K->w.cell? ⟨b2 t,j,none⟩=some (.int .u8 (((B t j).val:Nat):Int))
 va:w.cell? ⟨ba,0,none⟩=some (.slice (some ⟨C,0,none⟩) K K)
 pay:w.heap[C]?=some (.cells (madeCells #[.slice none 0 0] K) 34)
 new:bp<C/\Dy<C/\bD<C/\bv<C/\h2<C/\(∀t,t<K->b2 t<C)/\C<ba/\ba<w.heap.size
 gj:∃A,F.Gj K (mF K λs=>q.ix (σ s)) K A B
 pl:MH K q.ix σ
theorem RD.more{w1 w wa wb:World}{K t:Nat}{q:CL}{σ rb:Nat->Nat}{bR bD:Nat}(h:RD w1 K t q σ rb bR bD w)(ht:t<K)(hne:bR≠bD)(hbR:bR<w1.heap.size)(hbD:bD<w1.heap.size)(ha:Below w.heap.size w wa)(hr:zK wa wb K (uj K (q.ix (σ t)))):
  RD w1 K (t+1) q σ (λi=>if i=t then wa.heap.size else rb i) bR bD ((wb.setCell ⟨bR,t,none⟩ (.slice (some ⟨wa.heap.size,0,none⟩) K K)).setCell ⟨bD,t,none⟩ (q.d (σ t)))/\
  (wb.cell? ⟨bR,t,none⟩=some (.slice none 0 0)/\wb.frozen? ⟨bR,t,none⟩=false)/\(wb.setCell ⟨bR,t,none⟩ (.slice (some ⟨wa.heap.size,0,none⟩) K K)).cell? ⟨bD,t,none⟩=some (.slice none 0 0)/\(wb.setCell ⟨bR,t,none⟩ (.slice (some ⟨wa.heap.size,0,none⟩) K K)).frozen? ⟨bD,t,none⟩=false:=by
 have hsa:=ha.size;have x9:=h.Z9.size;have hsb:=hr.size;have k:∀b,b<w.heap.size->wb.heap[b]?=w.heap[b]?:=λb hb=>(hr.below.block b ae).trans (ha.block b hb)
 have r1:=h.rows.of_block (k bR ae);have d1:=h.dat.of_block (k bD ae);have r2:=r1.set t (.slice (some ⟨wa.heap.size,0,none⟩) K K);have d2:=d1.setOther (a:=⟨bR,t,none⟩) (λe=>hne e.symm) (.slice (some ⟨wa.heap.size,0,none⟩) K K)
 have SS:∀i,i<t+1->((wb.setCell ⟨bR,t,none⟩ (.slice (some ⟨wa.heap.size,0,none⟩) K K)).setCell ⟨bD,t,none⟩ (q.d (σ t))).rowIs (if i=t then wa.heap.size else rb i) 5 K (λj=>.int .u8 ((uj K (q.ix (σ i)) j:Nat):Int)):=λi hi=>by
  by_cases e:i=t
  .subst e;rw[aj rfl];exact(hr.row.setOther (a:=⟨bR,i,none⟩) (by show wa.heap.size≠bR;omega) _).setOther (a:=⟨bD,i,none⟩) (by show wa.heap.size≠bD;omega) _
  .rw[ah e];have hl:=h.low i ae;exact(((h.row i ae).of_block (k (rb i) hl.2)).setOther (a:=⟨bR,t,none⟩) (by show rb i≠bR;omega) _).setOther (a:=⟨bD,t,none⟩) (by show rb i≠bD;omega) _
 refine⟨⟨?_,?_,SS,λi j hi hj VG=>?_,λi hi=>?_,?_⟩,⟨?_,r1.frozen t⟩,?_,d2.frozen t⟩
 .refine(r2.setOther (a:=⟨bD,t,none⟩) hne _).congr λi hi=>?_
  by_cases e:i=t
  .rw[aj e,aj ae,aj e]
  .rw[ah e];by_cases e2:i<t
   .rw[aj e2,aj ae,ah e]
   .rw[ah e2,ah ae]
 .refine(d2.set t (q.d (σ t))).congr λi hi=>?_
  by_cases e:i=t
  .rw[aj e,aj ae,e]
  .rw[ah e];by_cases e2:i<t
   .rw[aj e2,aj ae]
   .rw[ah e2,ah ae]
 .by_cases e1:i=t
  .rw[aj e1,ah ae];have:=(h.low j ae).2;omega
  .rw[ah e1];by_cases e2:j=t
   .rw[aj e2];have:=(h.low i ae).2;omega
   .rw[ah e2];exact h.inj i j ae ae VG
 .by_cases e:i=t
  .rw[aj e];simp;omega
  .rw[ah e];have:=h.low i ae;simp;omega
 .exact(((h.Z9.trans (S':=λ_=>False) (.below ha) (λ_ _ x=>x.elim)).trans (S':=λ_=>False) (.below hr.below) (λ_ _ x=>x.elim)).set (a:=⟨bR,t,none⟩) (.inl (.inl rfl)) _).set (a:=⟨bD,t,none⟩) (.inl (.inr rfl)) _
 .have:=r1.cell ht;exact awG
 .have:=d2.cell ht;exact awG
section
variable {X:Nat->Prop}{Y:Nat->Option Obj}{D:Nat->World->Array Event->Prop}{Stop:Goroutine->World->Prop}{w:World}{K bc cap:Nat}{q:CL}
theorem aay(hD:vw X D){cs:List Frame}{M oc:Nat}(hK:0<K/\K<=128)(hKM:K<=M)(BD:M<=cap)(hx:∀i,i<K->q.ix i<128)(hC:CO w bc oc K q)(aps:∀i j,i<K->j<K->i≠j->q.ix i≠q.ix j)
  (qH:∀(σ:Nat->Nat)(bp Dy bD bv h2 ba C:Nat)(b2:Nat->Nat)(B:Nat->Nat->F)(T:Array Value)(w1:World),alu bp K Dy bv ba T->Un K q σ bp Dy bD bv h2 ba C b2 B w1->(∀b,b<w.heap.size->b<C)->(w.heap.size<=bp/\w.heap.size<=Dy/\w.heap.size<=bD/\w.heap.size<=bv/\w.heap.size<=h2/\∀t,t<K->w.heap.size<=b2 t)->sK w.heap.size w w1->uh prog X Y D Stop 67 cs [.code ZW] ⟨T,[]⟩ w1):
  uh prog X Y D Stop 67 cs [.code Ja] ⟨#[.int .i64 (K:Int),.slice (some ⟨bc,oc,none⟩) M cap]++Array.replicate 67 undef,[]⟩ w:=by
 have hKc:(K:Int)<=(cap:Int):=ae
 have one:∀(u:World)(x:Value),(u.alloc (.cells #[x] 28)).rowIs u.heap.size 28 1 (λ_=>x):=λu x=>World.rowIs_alloc u #[x] 28 (λ_=>x) (λi hi=>by obtain rfl:i=0:=iK;rfl)
 have m1:=Eg K ae;have mz:=λu:World=>World.rowIs_made u (.slice none 0 0) K 34
 generalize hZ:madeCells #[.slice none 0 0] K=Z at m1 mz;unfold Ja;simp only[Tryz.f67,aB,cu,b_,bU,bY,bg,aV];refine qQ qK hD ag rfl aax λR hR τ d'=>?_
 have hCA:CO ({w with tape:=τ,drawn:=d'}:World) bc oc K q:=⟨hC.lt,hC.c0,hC.c1⟩;have hbA:sK w.heap.size w {w with tape:=τ,drawn:=d'}:=(sK.refl _ w).tp τ d';generalize({w with tape:=τ,drawn:=d'}:World)=wA at hCA hbA⊢;go_wp2;refine qQ qK hD ag rfl aax λR hR τ d'=>?_
 replace hCA:CO ({wA with tape:=τ,drawn:=d'}:World) bc oc K q:=⟨hCA.lt,hCA.c0,hCA.c1⟩;replace hbA:=hbA.tp τ d';generalize({wA with tape:=τ,drawn:=d'}:World)=wA at hCA hbA⊢;have c1:=ah1 K bc oc cap q wA ae hx hCA aps
 go_wp2_with(first|(go_at_call 108;(with_reducible refine c1.mono ?_);rintro e w1 ⟨σ,rfl,hP,vP,t_⟩))
 have hwA:=hbA.sH;have bl:=hbA.trans (sK.of t_) hwA;generalize hbp:wA.heap.size=bp at*;clear t_ hbp hCA hbA c1;refine qQ qK hD ag rfl aax λR hR τ d'=>?_
 replace vP:({w1 with tape:=τ,drawn:=d'}:World).rowIs _ _ _ _:=vP;replace bl:=bl.tp τ d';generalize({w1 with tape:=τ,drawn:=d'}:World)=w1 at vP bl⊢;have hpb:=vP.lt;have m1':=m1 w1;have z1:=mz w1;have s1:(w1.alloc (.cells Z 34)).heap.size=w1.heap.size+1:=ai;have t_:Below w1.heap.size w1 (w1.alloc (.cells Z 34)):=(aA _ _).alloc (ak _) _;go_wp2;have afP:=vP.of_block (t_.block bp hpb);have hsw:=bl.sH;replace bl:=bl.trans (sK.of t_) hsw;generalize w1.alloc (.cells Z 34)=w2 at z1 s1 afP bl⊢;generalize hbR:w1.heap.size=bR at*;clear t_ m1' vP hbR;refine qQ qK hD ag rfl aax λR hR τ d'=>?_
 replace afP:({w2 with tape:=τ,drawn:=d'}:World).rowIs _ _ _ _:=afP;replace z1:({w2 with tape:=τ,drawn:=d'}:World).rowIs _ _ _ _:=z1;replace s1:({w2 with tape:=τ,drawn:=d'}:World).heap.size=bR+1:=s1;replace bl:=bl.tp τ d';generalize({w2 with tape:=τ,drawn:=d'}:World)=w2 at afP z1 s1 bl⊢;have m2':=m1 w2;have z2:=mz w2;rw[s1]at m2' z2;have s2:(w2.alloc (.cells Z 34)).heap.size=bR+2:=by simp[s1]
 have sZ:Below (bR+1) w2 (w2.alloc (.cells Z 34)):=(aA _ _).alloc ae _;have y0:=one (w2.alloc (.cells Z 34)) (.slice (some ⟨bR+1,0,none⟩) K K);rw[s2]at y0;have vK:=sZ.alloc ae (.cells #[.slice (some ⟨bR+1,0,none⟩) K K] 28);have s3:((w2.alloc (.cells Z 34)).alloc (.cells #[.slice (some ⟨bR+1,0,none⟩) K K] 28)).heap.size=bR+3:=by simp[s1]
 have z2':=z2.alloc (.cells #[.slice (some ⟨bR+1,0,none⟩) K K] 28);have z1':=z1.of_block (vK.block bR ae);have YM:=afP.of_block (vK.block bp ae);go_wp2;replace bl:=bl.trans (sK.of vK) ae;generalize(w2.alloc (.cells Z 34)).alloc (.cells #[.slice (some ⟨bR+1,0,none⟩) K K] 28)=w3 at y0 s3 z2' z1' YM bl⊢;clear z1 z2 m2' sZ vK s1 s2 afP;refine qQ qK hD ag rfl aax λR hR τ d'=>?_
 replace YM:({w3 with tape:=τ,drawn:=d'}:World).rowIs _ _ _ _:=YM;replace z1':({w3 with tape:=τ,drawn:=d'}:World).rowIs _ _ _ _:=z1';replace z2':({w3 with tape:=τ,drawn:=d'}:World).rowIs _ _ _ _:=z2';replace y0:({w3 with tape:=τ,drawn:=d'}:World).rowIs _ _ _ _:=y0;replace s3:({w3 with tape:=τ,drawn:=d'}:World).heap.size=bR+3:=s3;replace bl:=bl.tp τ d';generalize({w3 with tape:=τ,drawn:=d'}:World)=w3 at YM z1' z2' y0 s3 bl⊢;have ap1:RD w3 K 0 q σ (λ_=>0) bR (bR+1) w3:=⟨z1'.congr λi _=>fV,z2'.congr λi _=>fV,λi h=>absurd h ae,λi j h=>absurd h ae,λi h=>absurd h ae,BX.refl _ _⟩;clear z1' z2';go_wp2
 go_loopw [25] (λvi wr=>∃t:Nat,t<=K/\vi=.int .i64 (t:Int)/\∃rb,RD w3 K t q σ rb bR (bR+1) wr) (λi _=>K-(intOf i).toNat)
 case atStart=>exact⟨0,ae,rfl,_,ap1⟩
 case round=>
  clear ap1;obtain⟨t,ht,rfl,rb,Z_⟩:=hrel;by_cases qE:t<K
  .have Ag:(t:Int)<(K:Int):=ae;have anV:=Z_.Z9.row YM.lt (by rintro(e|e)<;>omega) YM;have y0r:=Z_.Z9.row y0.lt (by rintro(e|e)<;>omega) y0;have g0:=anV.cell (i:=t*2) ae;have g1:=anV.cell (i:=t*2+1) ae;simp only[Uo,show t*2/2=t by omega,show t*2%2=0 by omega,show(t*2+1)/2=t by omega,show(t*2+1)%2=1 by omega,cvv,aF,jJ,aU,CL.d]at g0 g1;have hxt:q.ix (σ t)<128:=hx (σ t) (hP.lt t qE);have be1:=(aA wr.heap.size wr).alloc (ak _) (.cells #[.int .i64 ((q.ix (σ t):Nat):Int),.slice (q.db (σ t)) q.L (q.dc (σ t))] 143)
   have n0:(wr.alloc (.cells #[.int .i64 ((q.ix (σ t):Nat):Int),.slice (q.db (σ t)) q.L (q.dc (σ t))] 143)).rowIs wr.heap.size 143 2 (λj=>if j=0 then .int .i64 ((q.ix (σ t):Nat):Int)else .slice (q.db (σ t)) q.L (q.dc (σ t))):=
     World.rowIs_alloc wr #[.int .i64 ((q.ix (σ t):Nat):Int),.slice (q.db (σ t)) q.L (q.dc (σ t))] 143 _ (λi hi=>by have:i=0\/i=1:=iK;rcases this with rfl|rfl<;>rfl)
   have y1:=y0r.alloc (.cells #[.int .i64 ((q.ix (σ t):Nat):Int),.slice (q.db (σ t)) q.L (q.dc (σ t))] 143);have hrd:=λwb=>Z_.more (wb:=wb) qE ae ae ae be1
   have c3:=alx K (q.ix (σ t)) ae hxt;have hwl:=Z_.Z9.size;have hMs:wr.heap.size<(wr.alloc (.cells #[.int .i64 ((q.ix (σ t):Nat):Int),.slice (q.db (σ t)) q.L (q.dc (σ t))] 143)).heap.size:=ai;generalize ZX:wr.alloc (.cells #[.int .i64 ((q.ix (σ t):Nat):Int),.slice (q.db (σ t)) q.L (q.dc (σ t))] 143)=W1 at n0 y1 hrd be1 hMs;have a0:=n0.cell (i:=0) ae;have a1:=n0.cell (i:=1) ae;simp only[aF,jJ,aU]at a0 a1
   have fin:∀W2,zK W1 W2 K (uj K (q.ix (σ t)))->(W2.cell? ⟨bR,t,none⟩=some (.slice none 0 0)/\W2.frozen? ⟨bR,t,none⟩=false)/\∃W3,W2.setCell ⟨bR,t,none⟩ (.slice (some ⟨W1.heap.size,0,none⟩) K K)=W3/\W3.cell? ⟨bR+2,0,none⟩=some (.slice (some ⟨bR+1,0,none⟩) K K)/\W3.cell? ⟨wr.heap.size,1,none⟩=some (.slice (q.db (σ t)) q.L (q.dc (σ t)))/\W3.cell? ⟨bR+1,t,none⟩=some (.slice none 0 0)/\W3.frozen? ⟨bR+1,t,none⟩=false/\RD w3 K (t+1) q σ (λi=>if i=t then W1.heap.size else rb i) bR (bR+1) (W3.setCell ⟨bR+1,t,none⟩ (.slice (q.db (σ t)) q.L (q.dc (σ t)))):=λW2 K_=>by
    obtain⟨h1,h2,h3,h4⟩:=hrd W2 K_;refine⟨h2,_,rfl,?_,?_,h3,h4,h1⟩
    .exact((y1.of_block (K_.below.block _ y1.lt)).setOther (a:=⟨bR,t,none⟩) (by show bR+2≠bR;omega) _).cell (i:=0) ae
    .have:=((n0.of_block (K_.below.block _ n0.lt)).setOther (a:=⟨bR,t,none⟩) (by show wr.heap.size≠bR;omega) (.slice (some ⟨W1.heap.size,0,none⟩) K K)).cell (i:=1) ae;exact this
   clear hrd anV y0r y1 n0 YM y0
   go_wp2_with(first|(go_at_call 52;(with_reducible refine(c3 _).mono ?_);rintro e W2 ⟨rfl,K_⟩;obtain⟨⟨e1,e2⟩,W3,hW3,e3,e4,e5,e6,arK⟩:=fin W2 K_;clear fin))
   go_roundw
   case rel=>exact⟨t+1,ae,aW,_,arK⟩
   case measure=>simp[intOf];omega
  .obtain rfl:t=K:=ae;have GH:¬((t:Int)<(t:Int)):=ae;have afQ:=Z_.Z9.row YM.lt (by rintro(e|e)<;>omega) YM;have y4:=Z_.Z9.row y0.lt (by rintro(e|e)<;>omega) y0;have ah2:FQ wr bR t rb (mF t λs=>q.ix (σ s)):=⟨Z_.rows.congr λi hi=>by rw[aj hi],λi hi=>(Z_.row i hi).congr λj _=>by rw[ap0],λi j hi hj hne=>Z_.inj i j hi hj hne,λi hi=>by have:=(Z_.low i hi).1;omega⟩;have ahe:=Z_.dat
   have Iu:sK w.heap.size w wr:=⟨Z_.Z9.os.trans bl.os,rfl,Z_.Z9.output.trans bl.output,by have:=Z_.Z9.size;have:=bl.sH;show w.heap.size<=_;omega,λb hb=>by have Ir:b<w.heap.size:=hb;have e1:=Z_.Z9.block b ae (by rintro(e|e)<;>omega);exact e1.trans (bl.block b hb)⟩
   have aly:=λi hi=>(Z_.low i hi).1
   have hsz:=Z_.Z9.size;clear Z_ bl;go_wp2;refine qQ qK hD ag rfl aax λR hR τ d'=>?_
   replace ah2:FQ ({wr with tape:=τ,drawn:=d'}:World) bR t rb (mF t λs=>q.ix (σ s)):=ah2.heap rfl;replace afQ:({wr with tape:=τ,drawn:=d'}:World).rowIs _ _ _ _:=afQ;replace y4:({wr with tape:=τ,drawn:=d'}:World).rowIs _ _ _ _:=y4;replace ahe:({wr with tape:=τ,drawn:=d'}:World).rowIs _ _ _ _:=ahe;replace Iu:=Iu.tp τ d';replace hsz:bR+3<=({wr with tape:=τ,drawn:=d'}:World).heap.size:=by rw[<-s3];exact hsz
   generalize({wr with tape:=τ,drawn:=d'}:World)=wr at ah2 afQ y4 ahe Iu hsz⊢;have c5:=aaz t bR rb _ _ wr ae ah2 (am0 ae hP (λi hi=>hx i hi))
   go_wp2_with(first|(go_at_call 109;(with_reducible refine c5.mono ?_);rintro e w5 ⟨h2,b2,A,B,rfl,hMB,hGj,hO5,hh2,sZ⟩))
   have anW:sK w.heap.size w w5:=⟨hO5.os.trans Iu.os,rfl,hO5.output.trans Iu.output,by have:=Iu.sH;have:=hO5.size;show w.heap.size<=_;omega,λb hb=>by have Ir:b<w.heap.size:=hb;exact(hO5.block b (by have:=Iu.sH;omega) (by rintro⟨i,hi,e⟩;have:=aly i hi;omega)).trans (Iu.block b hb)⟩
   have anX:=hO5.row afQ.lt (by rintro⟨i,hi,e⟩;have:=aly i hi;omega) afQ;have y5:=hO5.row y4.lt (by rintro⟨i,hi,e⟩;have:=aly i hi;omega) y4;have anY:=hO5.row ahe.lt (by rintro⟨i,hi,e⟩;have:=aly i hi;omega) ahe;have v1:=one w5 (.slice (some ⟨h2,0,none⟩) t t);have hb6:Below w5.heap.size w5 (w5.alloc (.cells #[.slice (some ⟨h2,0,none⟩) t t] 28)):=(aA _ _).alloc (ak _) _;have s6:(w5.alloc (.cells #[.slice (some ⟨h2,0,none⟩) t t] 28)).heap.size=w5.heap.size+1:=ai;have FP:bR+3<=w5.heap.size:=aJ hsz hO5.size;have hw5:=anW.sH;have atm:=hMB.head.lt;have arL:=λi hi=>(hMB.rows i hi).lt
   have afR:=anX.of_block (hb6.block bp anX.lt);have y6:=y5.of_block (hb6.block _ y5.lt);have ah3:=anY.of_block (hb6.block _ anY.lt);have afS:FQ (w5.alloc (.cells #[.slice (some ⟨h2,0,none⟩) t t] 28)) h2 t b2 B:=⟨hMB.head.of_block (hb6.block _ hMB.head.lt),λi hi=>(hMB.rows i hi).of_block (hb6.block _ (hMB.rows i hi).lt),hMB.inj,hMB.sep⟩;have bl6:=anW.trans (sK.of hb6) hw5;have VV:=Iu.sH;generalize w5.alloc (.cells #[.slice (some ⟨h2,0,none⟩) t t] 28)=w6 at v1 s6 afR y6 ah3 afS bl6⊢;generalize hbv:w5.heap.size=bv at*;clear hb6 hMB anX y5 anY anW Iu hO5 c5 afQ y4 ahe ah2 hbv;refine qQ qK hD ag rfl aax λR hR τ d'=>?_
   replace afS:FQ ({w6 with tape:=τ,drawn:=d'}:World) h2 t b2 B:=afS.heap rfl;replace afR:({w6 with tape:=τ,drawn:=d'}:World).rowIs _ _ _ _:=afR;replace y6:({w6 with tape:=τ,drawn:=d'}:World).rowIs _ _ _ _:=y6;replace ah3:({w6 with tape:=τ,drawn:=d'}:World).rowIs _ _ _ _:=ah3;replace v1:({w6 with tape:=τ,drawn:=d'}:World).rowIs _ _ _ _:=v1;replace s6:({w6 with tape:=τ,drawn:=d'}:World).heap.size=bv+1:=s6;replace bl6:=bl6.tp τ d';generalize({w6 with tape:=τ,drawn:=d'}:World)=w6 at afS afR y6 ah3 v1 s6 bl6⊢;have m5:=m1 w6;rw[s6]at m5
   have z7:(w6.alloc (.cells Z 34)).heap[bv+1]?=some (.cells Z 34):=by have:=dO w6 (.cells Z 34);rwa[s6]at this
   have s7:(w6.alloc (.cells Z 34)).heap.size=bv+2:=by simp[s6]
   have hb7:Below (bv+1) w6 (w6.alloc (.cells Z 34)):=(aA _ _).alloc ae _;go_wp2;have v3:=one (w6.alloc (.cells Z 34)) (.slice (some ⟨bv+1,0,none⟩) t t);rw[s7]at v3;have hb8:=hb7.alloc ae (.cells #[.slice (some ⟨bv+1,0,none⟩) t t] 28);have z8:((w6.alloc (.cells Z 34)).alloc (.cells #[.slice (some ⟨bv+1,0,none⟩) t t] 28)).heap[bv+1]?=some (.cells Z 34):=(bM _ _ _ ae).trans z7;have s8:((w6.alloc (.cells Z 34)).alloc (.cells #[.slice (some ⟨bv+1,0,none⟩) t t] 28)).heap.size=bv+3:=by simp[s6]
   generalize(w6.alloc (.cells Z 34)).alloc (.cells #[.slice (some ⟨bv+1,0,none⟩) t t] 28)=w8 at v3 hb8 z8 s8⊢;have st:∀{b o:Nat}{v:Value},w6.cell? ⟨b,o,none⟩=some v->w8.cell? ⟨b,o,none⟩=some v:=λ{b o v} hc=>(hb8.cell (p:=⟨b,o,none⟩) (by have:=ah4 hc;show b<_;omega)).trans hc
   have hpf:Un t q σ bp (bR+2) (bR+1) bv h2 (bv+2) (bv+1) b2 B w8:=by
    refine⟨λx hx=>?_,λx hx=>?_,st (y6.cell (i:=0) ae),λx hx=>?_,st (v1.cell (i:=0) ae),λx hx=>st (afS.head.cell hx),λx j hx hj=>st ((afS.rows x hx).cell hj),v3.cell (i:=0) ae,by rw[hZ];exact z8,⟨ae,ae,ae,ae,ae,λx hx=>by have:=arL x hx;omega,ae,ae⟩,⟨A,hGj⟩,hP⟩
    .have:=afR.cell (i:=x*2) ae;simp only[Uo,show x*2/2=x by omega,show x*2%2=0 by omega,cvv,aF]at this;exact st this
    .have:=afR.cell (i:=x*2+1) ae;simp only[Uo,show(x*2+1)/2=x by omega,show(x*2+1)%2=1 by omega,cvv,jJ,aU]at this;exact st this
    .have:=ah3.cell hx;rw[aj hx]at this;exact st this
   exact qH σ bp (bR+2) (bR+1) bv h2 (bv+2) (bv+1) b2 B _ w8 (alv rfl) hpf (λb hb=>ae) ⟨ae,ae,ae,ae,ae,λx hx=>by have:=sZ x hx;omega⟩ (bl6.trans (sK.of hb8) ae)
