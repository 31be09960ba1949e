import Derived.Test.YtnbflnamlpodcaaGreatDoorEnR
set_option maxHeartbeats 8000000
set_option maxRecDepth 100000
namespace Go.Proofs.Y
open Go.Proofs.Tryz
open Go.RowKit Go.Deep Go.Lf Go.Conc Go.Hp
noncomputable def yN:Code:=Tryz.f17.body.getD .skip
noncomputable def aC6:Code:=qM (qA (qA (qA (qA (qA yN)))))
noncomputable def Jz:Code:=qA (qA (qA (qA (qA (qA yN)))))
noncomputable def Aw:Code:=Qh (Qh (qA aC6))
noncomputable def QC:{x:Array Oper//x=uq (qM aC6)}:=⟨_,by(simp only[aC6,yN,qM,qA,uq,Tryz.f17,aQ];rfl)⟩
noncomputable def Fq:Array Oper:=QC.1
theorem ao7:aC6=.seq (.region 6 Fq true) (.block 0 (.loop Aw)):=aj
theorem abr:Fq.size=9:=aj
theorem ao8:prog.follows .mixedOrders=true:=aj
theorem sfA:∃fn,prog.funcs[17]?=some fn:=⟨_,func17⟩
def T6(f:Nat->ai)(pc K N:Nat)(vb vn vs vm vh vj:ai)(b0 b1 b2 b3 b4 b5 b8:Bool):aB:=#[vb,f 1,f 2,.pointer (some ⟨pc,0,none⟩),f 4,f 5,vn,vs,vm,vh,f 10,f 11,f 12,f 13,f 14,f 15,f 16,f 17,f 18,f 19,f 20,f 21,f 22,f 23,f 24,f 25,f 26,f 27,(if b0 then .pointer (some ⟨pc,0,none⟩)else f 28),(if b1 then .int .i64 ((K:Nat):Int)else f 29),(if b2 then .pointer (some ⟨pc,1,none⟩)else f 30),(if b3 then .int .i64 ((N:Nat):Int)else f 31),(if b4 then vb else f 32),(if b5 then vj else f 33),f 34,f 35,(if b8 then .int .i64 0 else f 36),f 37,f 38,f 39,f 40,f 41,f 42,f 43,f 44,f 45,f 46,f 47,f 48,f 49,f 50,f 51,f 52,f 53,f 54,f 55,f 56,f 57,f 58,f 59]
def TA(pc:Nat)(vn vs vm vh x:ai)(T:aB):Prop:=∃f:Nat->ai,T=#[f 0,f 1,f 2,.pointer (some ⟨pc,0,none⟩),f 4,f 5,vn,vs,vm,vh,f 10,f 11,f 12,f 13,f 14,f 15,f 16,f 17,f 18,f 19,f 20,f 21,f 22,f 23,f 24,f 25,f 26,f 27,f 28,f 29,f 30,f 31,f 32,f 33,f 34,f 35,x,f 37,f 38,f 39,f 40,f 41,f 42,f 43,f 44,f 45,f 46,f 47,f 48,f 49,f 50,f 51,f 52,f 53,f 54,f 55,f 56,f 57,f 58,f 59]
theorem arf{pc:Nat}{vn vs vm vh x:ai}{T:aB}(h:T=#[ae T 0,ae T 1,ae T 2,.pointer (some ⟨pc,0,none⟩),ae T 4,ae T 5,vn,vs,vm,vh,ae T 10,ae T 11,ae T 12,ae T 13,ae T 14,ae T 15,ae T 16,ae T 17,ae T 18,ae T 19,ae T 20,ae T 21,ae T 22,ae T 23,ae T 24,ae T 25,ae T 26,ae T 27,ae T 28,ae T 29,ae T 30,ae T 31,ae T 32,ae T 33,ae T 34,ae T 35,x,ae T 37,ae T 38,ae T 39,ae T 40,ae T 41,ae T 42,ae T 43,ae T 44,ae T 45,ae T 46,ae T 47,ae T 48,ae T 49,ae T 50,ae T 51,ae T 52,ae T 53,ae T 54,ae T 55,ae T 56,ae T 57,ae T 58,ae T 59]):TA pc vn vs vm vh x T:=⟨λi=>T.getD i undef,h⟩
def Left(x:ai)(rest:aA):Prop:=(rest=[7]/\x=.int .i64 0)\/rest=[7,8]\/rest=[8,7]
noncomputable def JA(T:aB)(rest:aA):aJ:=(base 17).at ⟨T,[]⟩ (.inRegion Fq (6::rest)::[.code (.block 0 (.loop Aw)),.code Jz])
theorem agF:alY 30=true:=aC
section
variable {X:Nat->Prop}{Y:Nat->aV}{D:Nat->ah->aH->Prop}{Stop:aG->ah->Prop}{cs:aP}
theorem adH(b0 b1 b2 b3 b4 b5 b8:Bool):Region.ready .any Fq #[b0,b1,b2,b3,b4,b5,false,false,b8]≠[]:=by
 have mem:∀i o,Fq[i]?=some o->(#[b0,b1,b2,b3,b4,b5,false,false,b8]:Array Bool).getD i true=false->(∀e∈o.after,(#[b0,b1,b2,b3,b4,b5,false,false,b8]:Array Bool).getD e.on false=true)->Region.ready .any Fq #[b0,b1,b2,b3,b4,b5,false,false,b8]≠[]:=λi o ho h1 h2 e=>by have:=mem_ready (md:=.any).2 ⟨h1,o,ho,λe he _=>h2 e he⟩;rw[e]at this;cases this
 cases b0
 .exact mem 0 _ eG rfl ax
 cases b1
 .exact mem 1 _ eG rfl ax
 cases b2
 .exact mem 2 _ eG rfl ax
 cases b3
 .exact mem 3 _ eG rfl ax
 cases b4
 .exact mem 4 _ eG rfl ax
 cases b5
 .exact mem 5 _ eG rfl ax
 .exact mem 6 _ eG rfl ax
def J5(v0:ah)(l:ak)(b5:Bool)(vj:ai)(v:ah):Prop:=(b5=false/\v=v0)\/(b5=true/\sH v0.heap.size v0 v/\rO v0.heap.size v vj l)
theorem J5.AO{v0 v:ah}{l:ak}{b5:Bool}{vj:ai}(h:J5 v0 l b5 vj v):sH v0.heap.size v0 v:=by
 rcases h with⟨_,rfl⟩|⟨_,h,_⟩
 .exact sH.refl _ _
 .exact h
def DC6(b0 b1 b2 b3 b4 b5:Bool):Prop:=(b1=true->b0=true)/\(b3=true->b2=true)/\(b5=true->b4=true)
theorem anQ(b8:Bool)(fuel t:Nat)(hf:fuel=1+(!b8).toNat)(x:ai):Left (if b8 then .int .i64 0 else x) (Region.linearise.go .any Fq fuel t #[true,true,true,true,true,true,true,false,b8] []):=by
 have r0:Region.ready .any Fq #[true,true,true,true,true,true,true,false,true]=[7]:=aj;have r1:Region.ready .any Fq #[true,true,true,true,true,true,true,false,false]=[7,8]:=aj;have r2:Region.ready .any Fq #[true,true,true,true,true,true,true,true,false]=[8]:=aj;cases b8
 .obtain rfl:fuel=0+1+1:=p_;obtain⟨i,t',hi,e⟩:=go_succ (ops:=Fq) (0+1) t #[true,true,true,true,true,true,true,false,false] (by rw[r1];simp);rw[e];rw[r1]at hi;simp at hi;rcases hi with rfl|rfl
  .obtain⟨i2,t2,Ho,e2⟩:=go_succ (ops:=Fq) 0 t' #[true,true,true,true,true,true,true,true,false] (by rw[r2];simp);rw[r2]at Ho;simp at Ho;subst Ho;refine .inr (.inl ?_);show 7::Region.linearise.go .any Fq (0+1) t' #[true,true,true,true,true,true,true,true,false] []=_;rw[e2];rfl
  .obtain⟨i2,t2,Ho,e2⟩:=go_succ (ops:=Fq) 0 t' #[true,true,true,true,true,true,true,false,true] (by rw[r0];simp);rw[r0]at Ho;simp at Ho;subst Ho;refine .inr (.inr ?_);show 8::Region.linearise.go .any Fq (0+1) t' #[true,true,true,true,true,true,true,false,true] []=_;rw[e2];rfl
 .obtain rfl:fuel=0+1:=p_;obtain⟨i,t',hi,e⟩:=go_succ (ops:=Fq) 0 t #[true,true,true,true,true,true,true,false,true] (by rw[r0];simp);rw[r0]at hi;simp at hi;subst hi;refine .inl ⟨?_,rfl⟩;rw[e];rfl
theorem agG(hD:uU X D){f:Nat->ai}{pc K N m cap:Nat}{bo:aY}{vn vs vm vh vb:ai}{v0:ah}{l:ak}(hvb:vb=.slice bo m cap)(hK:v0.cell? ⟨pc,0,none⟩=some (.int .i64 ((K:Nat):Int)))(hN:v0.cell? ⟨pc,1,none⟩=some (.int .i64 ((N:Nat):Int)))
  (arh:∀τ d,Calls prog 30 #[.slice bo m cap] {v0 with tape:=τ,drawn:=d} λr w'=>sH v0.heap.size v0 w'/\∃v,r=.returned v/\rO v0.heap.size w' v l)
  (qJ:∀(T:aB)(rest:aA)(x vj:ai)(v:ah),TA pc vn vs vm vh x T->Left x rest->sH v0.heap.size v0 v->rO v0.heap.size v vj l->uA prog X Y D Stop 29 (JA T rest::cs) [.code zD] ⟨#[.int .i64 ((K:Nat):Int),.int .i64 ((N:Nat):Int),vj]++Array.replicate 23 undef,[]⟩ v):
  ∀(fuel t:Nat)(b0 b1 b2 b3 b4 b5 b8:Bool)(vj:ai)(v:ah),fuel=2+(!b0).toNat+(!b1).toNat+(!b2).toNat+(!b3).toNat+(!b4).toNat+(!b5).toNat+(!b8).toNat->DC6 b0 b1 b2 b3 b4 b5->J5 v0 l b5 vj v->
   uA prog X Y D Stop 17 cs (.inRegion Fq (Region.linearise.go .any Fq fuel t #[b0,b1,b2,b3,b4,b5,false,false,b8] [])::[.code (.block 0 (.loop Aw)),.code Jz]) ⟨T6 f pc K N vb vn vs vm vh vj b0 b1 b2 b3 b4 b5 b8,[]⟩ v:=by
 intro fuel
 induction fuel with
 |zero=>intro t b0 b1 b2 b3 b4 b5 b8 vj v hf;omega
 |succ fuel ih=>
  intro t b0 b1 b2 b3 b4 b5 b8 vj v hf hC hJ;obtain⟨i,t',hi,e⟩:=go_succ (ops:=Fq) fuel t _ (adH b0 b1 b2 b3 b4 b5 b8);rw[e];obtain⟨h1,o,ho,w_⟩:=mem_ready.1 hi;have hb:=hJ.AO;have qK:i<9:=by rw[<-abr];exact(dh.1 ho).1
  have hKv:v.cell? ⟨pc,0,none⟩=some (.int .i64 ((K:Nat):Int)):=Vb (w:={v0 with tape:=v.tape}) hb (az _) hK;have hNv:v.cell? ⟨pc,1,none⟩=some (.int .i64 ((N:Nat):Int)):=Vb (w:={v0 with tape:=v.tape}) hb (az _) hN
  match i,qK with
  |0,_=>
   obtain rfl:b0=false:=h1;refine qC qV hD (.pointer (some ⟨pc,0,none⟩)) eG rfl aj (λz _=>pY) ?_;exact ih t' true b1 b2 b3 b4 b5 b8 vj v kD ⟨λh=>rfl,hC.2⟩ hJ
  |1,_=>
   obtain rfl:b1=false:=h1
   obtain rfl:b0=true:=by exact ayK
   refine qC qV hD (.int .i64 ((K:Nat):Int)) eG rfl aj (λz hz=>by have hc:z.cell? ⟨pc,0,none⟩=some (.int .i64 ((K:Nat):Int)):=(by simp only[World.cell?,hz];exact hKv);unfold T6;go_simp) ?_;exact ih t' true true b2 b3 b4 b5 b8 vj v kD ⟨λh=>rfl,hC.2⟩ hJ
  |2,_=>
   obtain rfl:b2=false:=h1;refine qC qV hD (.pointer (some ⟨pc,1,none⟩)) eG rfl aj (λz _=>pY) ?_;exact ih t' b0 b1 true b3 b4 b5 b8 vj v kD ⟨hC.1,λh=>rfl,hC.2.2⟩ hJ
  |3,_=>
   obtain rfl:b3=false:=h1
   obtain rfl:b2=true:=by exact ayK
   refine qC qV hD (.int .i64 ((N:Nat):Int)) eG rfl aj (λz hz=>by have hc:z.cell? ⟨pc,1,none⟩=some (.int .i64 ((N:Nat):Int)):=(by simp only[World.cell?,hz];exact hNv);unfold T6;go_simp) ?_;exact ih t' b0 b1 true true b4 b5 b8 vj v kD ⟨hC.1,λh=>rfl,hC.2.2⟩ hJ
  |4,_=>
   obtain rfl:b4=false:=h1;refine qC qV hD (vb) eG rfl aj (λz _=>pY) ?_;exact ih t' b0 b1 b2 b3 true b5 b8 vj v kD ⟨hC.1,hC.2.1,λh=>rfl⟩ hJ
  |5,_=>
   obtain rfl:b5=false:=h1
   obtain rfl:b4=true:=by exact ayK
   obtain⟨_,rfl⟩|⟨h,_⟩:=hJ
   .refine NH qV hD (qV.body agF aj) (R:=λy w'=>sH v.heap.size v w'/\rO v.heap.size w' y l) eG rfl aI (vs:=#[.slice bo m cap]) (by rw[<-hvb];simp[Act.eval,T6]) (aw3 aj) (λτ d=>(arh τ d).mono (by
     rintro r w' ⟨h1,y,rfl,h2⟩;exact⟨y,rfl,h1,h2⟩)) λy v' hy=>?_
    exact ih t' b0 b1 b2 b3 true true b8 y v' kD ⟨hC.1,hC.2.1,λh=>rfl⟩ (.inr ⟨rfl,hy.1,hy.2⟩)
   .cases h
  |6,_=>
   have hal:b1=true/\b3=true/\b5=true:=by simp only[Fq,QC]at ho;cases ho;exact⟨w_ ⟨1,.data⟩ ax rfl,w_ ⟨3,.data⟩ ax rfl,w_ ⟨5,.data⟩ ax rfl⟩
   obtain⟨rfl,rfl,rfl⟩:=hal;obtain rfl:=hC.1 rfl;obtain rfl:=hC.2.1 rfl;obtain rfl:=hC.2.2 rfl;obtain⟨h,_⟩|⟨_,hb,hO⟩:=hJ
   .cases h
   .refine wo hD eG rfl aI func29 aj (c:=zD) aj (vs:=#[.int .i64 ((K:Nat):Int),.int .i64 ((N:Nat):Int),vj]) (n:=23) (by simp[Act.eval,T6]) aj ?_;exact qJ _ _ _ vj v (arf rfl) (anQ b8 fuel t' kD (f 36)) hb hO
  |7,_=>
   simp only[Fq,QC]at ho;cases ho;have:=w_ _ (pq.2 (fG.2 rfl)) rfl;cases this
  |8,_=>
   obtain rfl:b8=false:=h1;refine qC qV hD (.int .i64 0) eG rfl aj (λz _=>pY) ?_;exact ih t' b0 b1 b2 b3 b4 b5 true vj v kD hC hJ
end
theorem ao9{X:Nat->Prop}{Y:Nat->aV}{D:Nat->ah->aH->Prop}{Stop:aG->ah->Prop}{cs:aP}{k:b_}{v:ah}{T:aB}(pc K N:Nat)(vb vn vs vm vh:ai)(h:T=T6 (λi=>T.getD i undef) pc K N vb vn vs vm vh undef false false false false false false false)(hr:∀f,uA prog X Y D Stop 17 cs k ⟨T6 f pc K N vb vn vs vm vh undef false false false false false false false,[]⟩ v):uA prog X Y D Stop 17 cs k ⟨T,[]⟩ v:=by rw[h];exact hr _
theorem BC.AO{w w':ah}{bo:aY}{n B:Nat}{f:Nat->qX}(h:BC w bo n f)(hb:sH B w w')(hB:w.heap.size<=B):BC w' bo n f:=BC.below (w:={w with tape:=w'.tape}) ⟨h.here⟩ hb hB
theorem zn.AO{w w':ah}{e:qX}{d:ak}{B:Nat}(h:zn w e d)(hb:sH B w w')(hB:w.heap.size<=B):zn w' e d:=zn.below (w:={w with tape:=w'.tape}) h hb hB
theorem Du.AO{w w':ah}{B:Nat}(h:Du w)(hb:sH B w w')(hB:2<B):Du w':=Du.below (w:={w with tape:=w'.tape}) h hb hB
structure FA(K N C m:Nat)(g:Nat->qX)(l:ak)(pc gm bh:Nat)(vn vs vj:ai)(w u w':ah):Prop where
 par:ql u pc [.int .i64 ((K:Nat):Int),.int .i64 ((N:Nat):Int),.int .i64 ((C:Nat):Int)] 24
 nm:qU u vn (xe (qE m g))
 sz:qU u vs (Gf (qx m g))
 OD:Dv u gm 0 (rJ (xq (qE m g) (qx m g) (qE m g).length))
 gml:gm<u.heap.size
 tab:Du u
 us:u.heap.size=bh
 wu:sH w.heap.size w u
 AO:sH bh u w'
 sh:w'.heap[bh]?=some (.cells (madeCells #[.slice none 0 0] N) 34)
 dat:qU w' vj (sJ l)
def Zw(m:Nat)(g:Nat->qX):Nat:=(rJ (xq (qE m g) (qx m g) (qE m g).length)).length
section
variable {X:Nat->Prop}{Y:Nat->aV}{D:Nat->ah->aH->Prop}{Stop:aG->ah->Prop}{w:ah}{K N C m cap:Nat}{bo:aY}{g:Nat->qX}{d:qX->ak}
theorem amf(rM:uU X D){cs:aP}(hKN:1<=K/\K<=N/\N<=128)(hm:m<=1048576)(hB:BC w bo m g)(hD:∀i,i<m->zn w (g i) (d (g i)))(hN:xk (qE m g))(hF:MK (qE m g) (qx m g))(hT:Du w)
  (qJ:∀(T:aB)(rest:aA)(x vn vs vj:ai)(pc gm cm bh:Nat)(u w':ah),TA pc vn vs (.slice (some ⟨gm,0,none⟩) (Zw m g) cm) (.slice (some ⟨bh,0,none⟩) N N) x T->Left x rest->FA K N C m g (rE (λj=>d (g j)) m) pc gm bh vn vs vj w u w'->
   uA prog X Y D Stop 29 (JA T rest::cs) [.code zD] ⟨#[.int .i64 ((K:Nat):Int),.int .i64 ((N:Nat):Int),vj]++Array.replicate 23 undef,[]⟩ w'):
  uA prog X Y D Stop 17 cs [.code yN] ⟨#[.slice bo m cap,.agg #[.int .i64 ((K:Nat):Int),.int .i64 ((N:Nat):Int),.int .i64 ((C:Nat):Int)]]++Array.replicate 58 undef,[]⟩ w:=by
 have hL:=OH hN;have als:=GH d g m (λi hi=>(hD i hi).1);have Oq:(rE (λj=>d (g j)) m).length<=65536:=by rw[<-als];exact hF.2.1
 have ari:∀{u:ah},sH w.heap.size w u->BC u bo m g:=λ{u} hb=>hB.AO hb (az _);have toD:∀{u:ah},sH w.heap.size w u->∀i,i<m->zn u (g i) (d (g i)):=λ{u} hb i hi=>(hD i hi).AO hb (az _);have toT:∀{u:ah},sH w.heap.size w u->Du u:=λ{u} hb=>hT.AO hb hT.1;have eB:yN=.seq (qM yN) (.seq (qM (qA yN)) (.seq (qM (qA (qA yN))) (.seq (qM (qA (qA (qA yN)))) (.seq (qM (qA (qA (qA (qA yN))))) (.seq aC6 Jz))))):=aj;rw[eB];simp only[dR,dQ,dM,dP,dA,bT];refine rf qV rM aj rfl sfA λR hR τ d'=>?_
 have hzB:w.heap.size<=({w with tape:=τ,drawn:=d'}:ah).heap.size:=az _;have bl:sH w.heap.size w {w with tape:=τ,drawn:=d'}:=(sH.refl _ w).tp τ d';generalize({w with tape:=τ,drawn:=d'}:ah)=wA at hzB bl⊢;have Nq:ql (wA.alloc (.cells #[.int .i64 ((K:Nat):Int),.int .i64 ((N:Nat):Int),.int .i64 ((C:Nat):Int)] 24)) wA.heap.size [.int .i64 ((K:Nat):Int),.int .i64 ((N:Nat):Int),.int .i64 ((C:Nat):Int)] 24:=ql.made wA [.int .i64 ((K:Nat):Int),.int .i64 ((N:Nat):Int),.int .i64 ((C:Nat):Int)] 24;have xB:=(aT wA.heap.size wA).alloc (az _) (.cells #[.int .i64 ((K:Nat):Int),.int .i64 ((N:Nat):Int),.int .i64 ((C:Nat):Int)] 24);have s0:wA.heap.size<(wA.alloc (.cells #[.int .i64 ((K:Nat):Int),.int .i64 ((N:Nat):Int),.int .i64 ((C:Nat):Int)] 24)).heap.size:=ax;replace bl:=bl.trans (sH.of xB) hzB;simp only[qM,yN,Tryz.f17,aQ];go_wp2;generalize wA.alloc (.cells #[.int .i64 ((K:Nat):Int),.int .i64 ((N:Nat):Int),.int .i64 ((C:Nat):Int)] 24)=w0 at Nq bl s0⊢;generalize wA.heap.size=pc at*;clear xB;refine rf qV rM aj rfl sfA λR hR τ d'=>?_
 replace Nq:ql ({w0 with tape:=τ,drawn:=d'}:ah) pc [.int .i64 ((K:Nat):Int),.int .i64 ((N:Nat):Int),.int .i64 ((C:Nat):Int)] 24:=Nq;replace s0:pc<({w0 with tape:=τ,drawn:=d'}:ah).heap.size:=s0;replace bl:=bl.tp τ d';generalize({w0 with tape:=τ,drawn:=d'}:ah)=w0 at Nq bl s0⊢;have kc:=abt m cap bo g w0 hm (ari bl);simp only[qM,qA,yN,Tryz.f17,aQ]
 go_wp2_with(first|(go_at_call 26;(with_reducible refine kc.mono ?_);rintro r w1 ⟨uu,vn,vs,rfl,hn1,yE⟩))
 clear kc;have xK:=Nq.later (S:=λ_=>False) (.qF uu) s0 id;have LX:=bl.trans (sH.of uu) bl.sN;replace hn1:=QH hn1;replace yE:=QH yE;clear uu Nq bl s0;have HF:Hid (MK (qE m g) (qx m g)):=hF;refine rf qV rM aj rfl sfA λR hR τ d'=>?_
 replace xK:ql ({w1 with tape:=τ,drawn:=d'}:ah) pc [.int .i64 ((K:Nat):Int),.int .i64 ((N:Nat):Int),.int .i64 ((C:Nat):Int)] 24:=xK;replace hn1:qU ({w1 with tape:=τ,drawn:=d'}:ah) vn (xe (qE m g)):=hn1;replace yE:qU ({w1 with tape:=τ,drawn:=d'}:ah) vs (Gf (qx m g)):=yE;replace LX:=LX.tp τ d';generalize({w1 with tape:=τ,drawn:=d'}:ah)=w1 at xK hn1 yE LX⊢;have kf:=TG vn vs (qE m g) (qx m g) (by rw[uC];omega) (by rw[xm];omega) hL w1 hn1 yE;simp only[qM,qA,yN,Tryz.f17,aQ]
 go_wp2_with(first|(go_at_call 27;(with_reducible refine kf.mono ?_);rintro r w2 ⟨yf,ht⟩;obtain rfl:=ht.yes HF.out;obtain rfl:=yf.symm))
 clear kf;refine rf qV rM aj rfl sfA λR hR τ d'=>?_
 replace xK:ql ({w1 with tape:=τ,drawn:=d'}:ah) pc [.int .i64 ((K:Nat):Int),.int .i64 ((N:Nat):Int),.int .i64 ((C:Nat):Int)] 24:=xK;replace hn1:qU ({w1 with tape:=τ,drawn:=d'}:ah) vn (xe (qE m g)):=hn1;replace yE:qU ({w1 with tape:=τ,drawn:=d'}:ah) vs (Gf (qx m g)):=yE;replace LX:=LX.tp τ d';generalize({w1 with tape:=τ,drawn:=d'}:ah)=w1 at xK hn1 yE LX⊢;have km:=ZQ vn vs (qE m g) (qx m g) hL hF.1 hF.2.1 w1 hn1 yE (toT LX);simp only[qM,qA,yN,Tryz.f17,aQ]
 go_wp2_with(first|(go_at_call 28;(with_reducible refine km.mono ?_);rintro r w2 ⟨vm,rfl,Ot,tX⟩))
 clear km;obtain⟨gm,cm,rfl,_,atd,hgm,_,hmb⟩:=A7 Ot aww;have WO:=LX.trans (sH.of tX) LX.sN;have Hl:=xK.later (S:=λ_=>False) (.qF tX) xK.lt id;have hn2:=hn1.below tX;have zU:=yE.below tX;clear tX xK hn1 yE LX atd Ot;refine rf qV rM aj rfl sfA λR hR τ d'=>?_
 replace Hl:ql ({w2 with tape:=τ,drawn:=d'}:ah) pc [.int .i64 ((K:Nat):Int),.int .i64 ((N:Nat):Int),.int .i64 ((C:Nat):Int)] 24:=Hl;replace hn2:qU ({w2 with tape:=τ,drawn:=d'}:ah) vn (xe (qE m g)):=hn2;replace zU:qU ({w2 with tape:=τ,drawn:=d'}:ah) vs (Gf (qx m g)):=zU;replace hmb:Dv ({w2 with tape:=τ,drawn:=d'}:ah) gm 0 (rJ (xq (qE m g) (qx m g) (qE m g).length)):=hmb;replace hgm:gm<({w2 with tape:=τ,drawn:=d'}:ah).heap.size:=hgm;replace WO:=WO.tp τ d';generalize({w2 with tape:=τ,drawn:=d'}:ah)=w2 at Hl hn2 zU hmb hgm WO⊢;have c1:=Hl.cell (i:=1) rfl;have m2:=EJ N ag w2;have z2:=fC w2 (.cells (madeCells #[.slice none 0 0] N) 34);have wI:Below w2.heap.size w2 (w2.alloc (.cells (madeCells #[.slice none 0 0] N) 34)):=(aT _ _).alloc (az _) _;simp only[qM,qA,yN,Tryz.f17,aQ];go_wp2;clear m2 c1;generalize w2.alloc (.cells (madeCells #[.slice none 0 0] N) 34)=w3 at*;have bl3:=WO.trans (sH.of wI) WO.sN;have hr3:=Hl.later (S:=λ_=>False) (.qF wI) Hl.lt id;have xI:w2.heap.size<w3.heap.size:=(dh.1 z2).1;refine xM rM rfl ?_;rw[ao7];refine xM rM rfl (agx rM λt=>?_);rw[agv ao8,abr]
 have kj:∀τ dd,Calls prog 30 #[.slice bo m cap] {w3 with tape:=τ,drawn:=dd} λr w'=>sH w3.heap.size w3 w'/\∃v,r=.returned v/\rO w3.heap.size w' v (rE (λj=>d (g j)) m):=λτ dd=>
  (ajc m cap bo g (λj=>d (g j)) {w3 with tape:=τ,drawn:=dd} hm (ari (bl3.tp τ dd)) (toD (bl3.tp τ dd)) ag).mono λr w' ⟨h1,v,h2,h3⟩=>⟨⟨h1.os,rfl,h1.output,h1.size,h1.block⟩,v,h2,h3⟩
 refine ao9 pc K N (.slice bo m cap) vn vs (.slice (some ⟨gm,0,none⟩) (Zw m g) cm) (.slice (some ⟨w2.heap.size,0,none⟩) N N) rfl λf=>?_
 refine agG rM (f:=f) (vj:=undef) (bo:=bo) (m:=m) (cap:=cap) (l:=rE (λj=>d (g j)) m) rfl (hr3.cell (i:=0) rfl) (hr3.cell (i:=1) rfl) kj (λT rest x vj v hTA hLf hb hO=>?_) 9 t false false false false false false false w3 rfl ⟨(λh=>f_),(λh=>f_),(λh=>f_)⟩ (.inl ⟨rfl,rfl⟩);exact qJ T rest x vn vs vj pc gm cm w2.heap.size w2 v hTA hLf ⟨Hl,hn2,zU,hmb,hgm,toT WO,rfl,WO,(sH.of wI).trans hb ag,(hb.blk xI).trans z2,QH hO⟩
end
noncomputable def vg:Code:=Tryz.f8.body.getD .skip
noncomputable def enC:Code:=qA (qA (qA (qA vg)))
noncomputable def qen:{y:Array Oper//y=uq (qM enC)}:=⟨_,by(simp only[enC,vg,qM,qA,uq,Tryz.f8,aQ];rfl)⟩
noncomputable def enO:Array Oper:=qen.1
noncomputable def enD:Code:=qA enC
theorem ao_:enC=.seq (.region 6 enO false) enD:=aj
theorem ajd:enO.size=8:=aj
theorem agr:∃fn,prog.funcs[8]?=some fn:=⟨_,func8⟩
noncomputable def FQ(T:aB):aJ:=(base 8).at ⟨T,[]⟩ (.inRegion enO [2,3,4,5,6,7]::[.code enD])
def T28(T:aB):Prop:=∃f:Nat->ai,T=#[f 0,f 1,f 2,f 3,f 4,f 5,f 6,f 7,f 8,f 9,f 10,f 11,f 12,f 13,f 14,f 15,f 16,f 17,f 18,f 19,f 20,f 21,f 22,f 23,f 24,f 25,f 26,f 27]
theorem apa{T:aB}(h:T=#[ae T 0,ae T 1,ae T 2,ae T 3,ae T 4,ae T 5,ae T 6,ae T 7,ae T 8,ae T 9,ae T 10,ae T 11,ae T 12,ae T 13,ae T 14,ae T 15,ae T 16,ae T 17,ae T 18,ae T 19,ae T 20,ae T 21,ae T 22,ae T 23,ae T 24,ae T 25,ae T 26,ae T 27]):T28 T:=⟨λi=>T.getD i undef,h⟩
section
variable {X:Nat->Prop}{Y:Nat->aV}{D:Nat->ah->aH->Prop}{Stop:aG->ah->Prop}{w:ah}{K N C m cap:Nat}{bo:aY}{f:Nat->qX}{d:qX->ak}
theorem ame(rM:uU X D){cs:aP}(hA:WX w bo m cap f d)(hP:AQ (K:Int) (N:Int) (C:Int))(hNf:uX m f)
  (qJ:∀(T:aB)(g:Nat->qX)(bo2:aY)(L9:Nat)(w':ah),T28 T->qR m f g->(∀i,i+1<m->Hp.lt (g i).k (g (i+1)).k=true)->BC w' bo2 m g->sH w.heap.size w w'->uA prog X Y D Stop 17 (FQ T::cs) [.code yN] ⟨#[.slice bo2 m L9,.agg #[.int .i64 ((K:Nat):Int),.int .i64 ((N:Nat):Int),.int .i64 ((C:Nat):Int)]]++Array.replicate 58 undef,[]⟩ w'):
  uA prog X Y D Stop 8 cs [.code vg] ⟨#[.slice bo m cap,.agg #[.int .i64 ((K:Nat):Int),.int .i64 ((N:Nat):Int),.int .i64 ((C:Nat):Int)]]++Array.replicate 26 undef,[]⟩ w:=by
 have H1:Hid (AQ (K:Int) (N:Int) (C:Int)):=hP;have H2:Hid (uX m f):=hNf;have eB:vg=.seq (qM vg) (.seq (qM (qA vg)) (.seq (qM (qA (qA vg))) (.seq (qM (qA (qA (qA vg)))) enC))):=aj;rw[eB];simp only[dR,dQ,dM,dP,dA,bT];refine rf qV rM aj rfl agr λR hR τ d'=>?_
 have hzB:w.heap.size<=({w with tape:=τ,drawn:=d'}:ah).heap.size:=az _;have bl:sH w.heap.size w {w with tape:=τ,drawn:=d'}:=(sH.refl _ w).tp τ d';generalize({w with tape:=τ,drawn:=d'}:ah)=wA at hzB bl⊢;have Nq:ql (wA.alloc (.cells #[.int .i64 ((K:Nat):Int),.int .i64 ((N:Nat):Int),.int .i64 ((C:Nat):Int)] 24)) wA.heap.size [.int .i64 ((K:Nat):Int),.int .i64 ((N:Nat):Int),.int .i64 ((C:Nat):Int)] 24:=ql.made wA [.int .i64 ((K:Nat):Int),.int .i64 ((N:Nat):Int),.int .i64 ((C:Nat):Int)] 24;have xB:=(aT wA.heap.size wA).alloc (az _) (.cells #[.int .i64 ((K:Nat):Int),.int .i64 ((N:Nat):Int),.int .i64 ((C:Nat):Int)] 24);replace bl:=bl.trans (sH.of xB) hzB;simp only[qM,vg,Tryz.f8,aQ];go_wp2;generalize wA.alloc (.cells #[.int .i64 ((K:Nat):Int),.int .i64 ((N:Nat):Int),.int .i64 ((C:Nat):Int)] 24)=w0 at Nq bl⊢;generalize wA.heap.size=pc at*;clear xB;refine rf qV rM aj rfl agr λR hR τ d'=>?_
 replace Nq:ql ({w0 with tape:=τ,drawn:=d'}:ah) pc [.int .i64 ((K:Nat):Int),.int .i64 ((N:Nat):Int),.int .i64 ((C:Nat):Int)] 24:=Nq;replace bl:=bl.tp τ d';generalize({w0 with tape:=τ,drawn:=d'}:ah)=w0 at Nq bl⊢;have c0:=Nq.cell (i:=0) rfl;have c1:=Nq.cell (i:=1) rfl;have c2:=Nq.cell (i:=2) rfl;have kp:=Xd (K:Int) (N:Int) (C:Int) w0;simp only[qM,qA,vg,Tryz.f8,aQ]
 go_wp2_with(first|(go_at_call 15;(with_reducible refine kp.mono ?_);rintro r w1 ⟨uu,ht⟩;obtain rfl:=ht.yes H1.out))
 clear kp c0 c1 c2;have xK:=Nq.later (S:=λ_=>False) (.qF uu) Nq.lt id;have LX:=bl.trans (sH.of uu) bl.sN;clear uu Nq bl;refine rf qV rM aj rfl agr λR hR τ d'=>?_
 replace xK:ql ({w1 with tape:=τ,drawn:=d'}:ah) pc [.int .i64 ((K:Nat):Int),.int .i64 ((N:Nat):Int),.int .i64 ((C:Nat):Int)] 24:=xK;replace LX:=LX.tp τ d';generalize({w1 with tape:=τ,drawn:=d'}:ah)=w1 at xK LX⊢;have kb:=adG m cap bo f w1 hA.hm hA.hk (hA.bc.AO LX (az _));simp only[qM,qA,vg,Tryz.f8,aQ]
 go_wp2_with(first|(go_at_call 16;(with_reducible refine kb.mono ?_);rintro r w2 ⟨tX,hor⟩;obtain⟨g,v2,rfl,Fz,aaG,ho2⟩:∃f' v,r=.returned (.tuple #[v,.bool true])/\qR m f f'/\(∀i,i+1<m->Hp.lt (f' i).k (f' (i+1)).k=true)/\w2.ownsRow w1.heap.size 44 2 v m (xn m f'):=(by rcases hor with⟨h,_⟩|⟨_,h⟩;exact absurd H2.out h;exact h)))
 clear kb;obtain⟨bo2,L9,rfl,_,_,Ap⟩:=BC.ae2 ho2;have Hl:=xK.later (S:=λ_=>False) (.qF tX) xK.lt id;have WO:=LX.trans (sH.of tX) LX.sN;clear tX xK LX ho2;refine rf qV rM aj rfl agr λR hR τ d'=>?_
 replace Hl:ql ({w2 with tape:=τ,drawn:=d'}:ah) pc [.int .i64 ((K:Nat):Int),.int .i64 ((N:Nat):Int),.int .i64 ((C:Nat):Int)] 24:=Hl;replace WO:=WO.tp τ d';replace Ap:=Ap.AO ((sH.refl w2.heap.size w2).tp τ d') (az _);generalize({w2 with tape:=τ,drawn:=d'}:ah)=w2 at Hl WO Ap⊢;simp only[qM,qA,vg,Tryz.f8,aQ];go_wp2;have c0:=Hl.cell (i:=0) rfl;have c1:=Hl.cell (i:=1) rfl;have c2:=Hl.cell (i:=2) rfl;rw[ao_];refine xM rM rfl (FK rM ?_);rw[ajd];simp only[List.range,List.range.loop];refine qC qV rM (.slice bo2 m L9) jJ rfl aj (λz _=>a_) ?_;walk_nrm
 refine qC qV rM (.agg #[.int .i64 ((K:Nat):Int),.int .i64 ((N:Nat):Int),.int .i64 ((C:Nat):Int)]) jJ rfl aj (λz hz=>by
  have e:∀a,z.cell? a=w2.cell? a:=λa=>Rz
  rw[<-e]at c0 c1 c2;go_simp) ?_
 walk_nrm;refine wo rM jJ rfl aI func17 aj (c:=yN) aj (vs:=#[.slice bo2 m L9,.agg #[.int .i64 ((K:Nat):Int),.int .i64 ((N:Nat):Int),.int .i64 ((C:Nat):Int)]]) (n:=58) gI aj ?_;unfold FQ at qJ;exact qJ _ g bo2 L9 w2 (apa rfl) Fz aaG Ap WO
end
end Go.Proofs.Y
namespace Go.Proofs.Y
open Go.Proofs.Tryz
open Go.RowKit Go.Deep Go.Hp
theorem agH(a:Nat->Nat)(b:Nat->aA)(n:Nat):((List.range n).map a).zip ((List.range n).map b)=(List.range n).map λj=>(a j,b j):=by rw[List.zip_map']
theorem abu(r x:Nat->Nat)(hr:∀j,r j<256)(hx:∀j,x j<256):∀n,Nat.rec (motive:=λ_=>Nat) 0 (λj s=>s^^^mul (x j) (r j)) n=OG r x n
 |0=>rfl
 |n+1=>by show _^^^_=OG r x n^^^mul (r n) (x n);rw[abu r x hr hx n,mul_comm (hx n) (hr n)]
theorem aoS(k L:Nat)(l:ak)(bk bd P F ba:Nat)(h0:Nat->aV)(t:Nat):(Ja k L l bk bd P F ba h0).res k L t=(List.range L).map λm=>OG (uB k t) (λj=>xAt l L j m) k:=by
 have hz:FC ((List.range k).map (uB k t)) (Ja k L l bk bd P F ba h0).cs=(List.range k).map λj=>(uB k t j,(List.range L).map λm=>tZ l (j*L+m)):=by unfold FC Ja;simp only[jV];exact agH _ _ _
 have hlen:((Ja k L l bk bd P F ba h0).res k L t).length=L:=by unfold F9.res;rw[C_];simp
 apply jk;intro m;by_cases hm:m<L
 .have key:=U6 (uB k t) (λj=>(List.range L).map λm=>tZ l (j*L+m)) L m hm (λj=>ax) k;rw[<-hz]at key
  have e:∀j,((List.range L).map λm=>tZ l (j*L+m)).getD m 0=xAt l L j m:=λj=>by simp[hm,xAt]
  simp only[e]at key;rw[abu (uB k t) (λj=>xAt l L j m) (λ_=>D7) (λj=>EG _ _)]at key;have h1:((Ja k L l bk bd P F ba h0).res k L t).getD m 0=OG (uB k t) (λj=>xAt l L j m) k:=key;rw[bH]at h1;rw[cO (by rw[hlen];exact hm)]at h1⊢;simp only[aQ]at h1;rw[h1];simp[hm]
 .rw[g_ (by rw[hlen];omega),g_ aS]
