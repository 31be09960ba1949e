import Derived.Test.YtnbflnamlpodcaaGreatDoorCoU
set_option maxHeartbeats 8000000
set_option maxRecDepth 100000
namespace Go.Proofs.Y
open Go.Proofs.Tryz
open Go.RowKit Go.Deep Go.Lf Go.Conc Go.ConcN Go.Gh
open Go.ConcR (Payload WgAt wgBlock)
structure DO(w:ah)(n:Nat)(q:CL)(bd od:Nat->Nat)(yv:Nat->Nat->Nat):Prop where
 lt:∀i,i<n->bd i<w.heap.size
 here:∀i,i<n->0<q.L->q.db i=some ⟨bd i,od i,none⟩
 y:∀i m,i<n->m<q.L->w.cell? ⟨bd i,od i+m,none⟩=some (.int .u8 ((yv i m:Nat):Int))
 yl:∀i m,yv i m<256
noncomputable def q12:{x:Array Oper//x=anX (anW c12)}:=⟨_,by simp only[c12,JD,anW,RX,anX,Tryz.f67,aQ];rfl⟩
noncomputable def o12:Array Oper:=q12.1
theorem ao1:c12=.seq (.region 12 o12 false) zF:=aj
theorem n12:o12.size=1:=aj
section
variable {K L:Nat}
def JE(q:CL)(bd od:Nat->Nat)(yv:Nat->Nat->Nat)(L i:Nat):UK:=⟨q.db i,bd i,od i,q.dc i,(List.range L).map (yv i)⟩
def Ea(K L:Nat)(q:CL)(σ bd od:Nat->Nat)(yv:Nat->Nat->Nat)(bp D_ bD bv h2 ba:Nat)(b2:Nat->Nat)(B:Nat->Nat->F)(h0:Nat->aV):Env:=
 {ba:=ba,bv:=bv,bW:=h2,oW:=0,cW:=K,bd:=D_,bD:=bD,oD:=0,cD:=K,bp:=bp,op:=0,cp:=K,br:=b2,oR:=λ_=>0,cR:=λ_=>K,ws:=λt=>(List.range K).map λj=>(B t j).val,px:=λt=>q.ix (σ t),cs:=(List.range K).map λt=>JE q bd od yv L (σ t),h0:=h0}
theorem abe{D:Nat->ah->aH->Prop}(hD0:∀n w,n<=w.heap.size->D n w #[]){cs:aP}{bp D_ bv ba:Nat}{T:aB}(W:ah)(hT:amg bp K D_ bv ba T):
  ∃T',(∀E:Env,E.bp=bp->E.op=0->E.cp=K->E.bd=D_->E.bv=bv->E.ba=ba->TW E W.heap.size K T')/\∀Stop:aG->ah->Prop,(∀dd d',Stop (G ((base 67).at ⟨T',[]⟩ [.code zF]) cs) (((W.at dd).alloc (wgBlock link.tWg 0 0)).at d'))->r_ prog D Stop (G ((base 67).at ⟨T,[]⟩ [.code c12]) cs) W:=by
 obtain⟨f,hT⟩:=hT;rw[ao1]
 have key:∀(Stop:aG->ah->Prop)(a:Act)(o:Oper)(u:ai),o12[0]?=some o->a.defers=[]->Region.wanted o (yielded o12 a.tmps)=true->(∀z:ah,z.heap.size=W.heap.size->(execOp a.eval o).run prog z=.ok (.value u) (z.alloc (wgBlock link.tWg 0 0)))->(∀z,listed prog 67 a o z=#[])->
   (∀dd d',Stop (G ((base 67).at (a.put o.dst u) [.code zF]) cs) (((W.at dd).alloc (wgBlock link.tWg 0 0)).at d'))->r_ prog D Stop (G ((base 67).at a [.code (.seq (.region 12 o12 false) zF)]) cs) W:=by
  intro Stop a o u ho ha hw hr hl uw;refine .next rfl λd1=>⟨_,_,_,aW,hD0 _ _ (az _),.next rfl λd2=>⟨_,_,_,dS,hD0 _ _ (az _),?_⟩⟩
  rw[n12];simp only[List.range,List.range.loop];refine .next rfl λd3=>⟨_,_,_,stepG_value (b:=base _) ho hw oH (hr _ rfl),?_,.next rfl λd4=>⟨_,_,_,bf,hD0 _ _ (az _),.stop λd5=>uw d3 d5⟩⟩
  rw[show(base 67).fn=67 from rfl,hl];exact hD0 _ _ (by simp[World.at])
 refine⟨T.setIfInBounds 12 (.pointer (some ⟨W.heap.size,0,none⟩)),λE h1 h2 h3 h4 h5 h6=>?_,λStop uw=>?_⟩
 rotate_left
 .subst hT;refine key Stop _ _ (.pointer (some ⟨W.heap.size,0,none⟩)) (by simp only[o12,q12];rfl) rfl rfl (λz hz=>by rw[<-hz];go_simp;rfl) (λz=>listed_nil a_) ?_;exact uw
 .subst hT h1 h3 h4 h5 h6;refine⟨λi=>if i=12 then undef else f i,?_⟩;rw[h2];rfl
theorem U5.tp{q:CL}{σ:Nat->Nat}{bp D_ bD bv h2 ba C:Nat}{b2:Nat->Nat}{B:Nat->Nat->F}{w:ah}(h:U5 K q σ bp D_ bD bv h2 ba C b2 B w)(τ:Nat->Question->Nat)(d:Nat):U5 K q σ bp D_ bD bv h2 ba C b2 B {w with tape:=τ,drawn:=d}:=⟨h.p0,h.p1,h.vd,h.hD,h.vv,h.hW,h.hw,h.va,h.pay,h.new,h.gj,h.pl⟩
theorem U5.alloc{q:CL}{σ:Nat->Nat}{bp D_ bD bv h2 ba C:Nat}{b2:Nat->Nat}{B:Nat->Nat->F}{w:ah}(h:U5 K q σ bp D_ bD bv h2 ba C b2 B w)(o:Obj):U5 K q σ bp D_ bD bv h2 ba C b2 B (w.alloc o):=by obtain⟨n1,n2,n3,n4,n5,n6,n7,n8⟩:=h.new;exact⟨λt ht=>uQ o (h.p0 t ht),λt ht=>uQ o (h.p1 t ht),uQ o h.vd,λt ht=>uQ o (h.hD t ht),uQ o h.vv,λt ht=>uQ o (h.hW t ht),λt j ht hj=>uQ o (h.hw t j ht hj),uQ o h.va,(dI _ _ _ ag).trans h.pay,⟨n1,n2,n3,n4,n5,n6,n7,aS⟩,h.gj,h.pl⟩
theorem amk{q:CL}{σ bd od:Nat->Nat}{yv:Nat->Nat->Nat}{bp D_ bD bv h2 ba:Nat}{b2:Nat->Nat}{B:Nat->Nat->F}{h0:Nat->aV}(hn:0<K/\K<=128)(hL:L<=140737488355328)(hx:∀t,t<K->q.ix (σ t)<128)(hy:∀i m,yv i m<256):RQ (Ea K L q σ bd od yv bp D_ bD bv h2 ba b2 B h0) K L:=by
 refine⟨ag,ag,ag,by simp[Ea],λt _=>⟨by simp[Ea,DU],λx hx=>?_⟩,λc hc=>?_,λt ht=>?_⟩
 .simp only[Ea,gz]at hx;obtain⟨j,_,rfl⟩:=hx;exact(B t j).isLt
 .simp only[Ea,gz]at hc;obtain⟨j,_,rfl⟩:=hc;refine⟨by simp[JE,DU],λy hy'=>?_⟩;simp only[JE,gz]at hy';obtain⟨m,_,rfl⟩:=hy';exact hy _ _
 .have:=hx t ht;show q.ix (σ t)<128;omega
theorem ai0[Payload][rq](Ej:Payload.ety=34){X:Nat->Prop}{Y:Nat->aV}{w2 v3 W:ah}{lw C:Nat}{q:CL}{σ bd od:Nat->Nat}{yv:Nat->Nat->Nat}{bp D_ bD bv h2 ba:Nat}{b2:Nat->Nat}{B:Nat->Nat->F}(hold:∀b,rq.old b->b<lw)(hX:∀b,X b->b<lw)(Ws:lw<=bp/\lw<=D_/\lw<=bD/\lw<=bv/\lw<=h2/\∀t,t<K->lw<=b2 t)(hs:xZ X Y W v3)(hS:DO w2 K q bd od yv)(Rt:∀i,i<K->¬rq.old (bd i))(hqL:q.L=L)(hb:sH w2.heap.size w2 v3)(uI:∀b,b<w2.heap.size->b<C)(hP:U5 K q σ bp D_ bD bv h2 ba C b2 B v3){Wg:Nat}(hWg:W.heap.size=Wg+1)(hba:ba<Wg):
  SF Wg C K (Wg+1) L (Ea K L q σ bd od yv bp D_ bD bv h2 ba b2 B (λb=>W.heap[b]?)) (Wg+1) 0 (gw W []):=by
 obtain⟨n1,n2,n3,n4,n5,n6,n7,n8⟩:=hP.new;obtain⟨g1,g2,g3,g4,g5,g6⟩:=Ws;have hsz:=hs.size;have st:∀{b o:Nat}{u:ai},v3.cell? ⟨b,o,none⟩=some u->(gw W []).cell? ⟨b,o,none⟩=some u:=λ{b o u} h=>(show W.cell? ⟨b,o,none⟩=some u from OX hs h);have lo:∀{b:Nat},b<Wg->b≠C->lw<=b->Lo Wg C (Wg+1) b:=λ{b} h h' hl=>⟨ag,ag,h',λho=>by have:=hold b ho;omega⟩;have lr:∀t,t<K->Lo Wg C (Wg+1) (b2 t):=λt ht=>lo (by have:=n6 t ht;omega) (by have:=n6 t ht;omega) (g6 t ht)
 have hcs:∀{t:Nat}{c:UK},((List.range K).map λt=>JE q bd od yv L (σ t))[t]?=some c->t<K/\c=JE q bd od yv L (σ t):=λ{t c} e=>by exact azH
 have ahQ:(gw W []).heap.size=Wg+1:=hWg;refine⟨⟨?_,ag,ag,λb hb=>?_⟩,⟨madeCells #[.slice none 0 0] K,?_,iO _ _⟩,⟨lo (b:=ba) ag ag ag,lo (b:=bv) ag ag ag,lo (b:=h2) ag ag ag,lo (b:=D_) ag ag ag,lo (b:=bD) ag ag ag,lo (b:=bp) ag ag ag,lr,st hP.va,st hP.vv,st hP.vd,λt ht=>?_,λt ht j x e=>?_,λj c e=>?_,λt ht=>?_,λt c e=>?_,λc hc=>?_,λb _ _ _=>rfl⟩,⟨ag,ag,ag⟩,λt c ht=>absurd ht ag⟩
 .unfold gw;rw[x8];exact az _
 .unfold gw at hb;rw[vP]at hb;cases hb
 .exact azt
 .simp only[Ea,bM];exact st (hP.hW t ht)
 .simp only[Ea,bM,dO]at e⊢;obtain⟨j',Jh,rfl⟩:=dL.1 e;obtain⟨h1,rfl⟩:=GU Jh;exact st (hP.hw t _ ht h1)
 .obtain⟨h1,rfl⟩:=hcs e;simp only[Ea,JE,bM];have:=st (hP.hD j h1);rw[CL.d,hqL]at this;exact this
 .simp only[Ea,bM];exact st (hP.p0 t ht)
 .obtain⟨h1,rfl⟩:=hcs e;simp only[Ea,JE,bM];have:=st (hP.p1 t h1);rw[CL.d,hqL]at this;exact this
 .simp only[Ea,gz,fH]at hc;obtain⟨t,ht,rfl⟩:=hc;have hσ:=hP.pl.lt t ht;have d1:=hS.lt (σ t) hσ;have d2:=hS.here (σ t) hσ;have d3:=hS.y (σ t);rw[hqL]at d2 d3;have:=uI _ d1;refine⟨⟨by show bd (σ t)<_;omega,by show bd (σ t)≠_;omega,by show bd (σ t)≠C;omega,Rt _ hσ⟩,d2,λi y e=>?_⟩;simp only[JE,dO]at e⊢;obtain⟨j',Jh,rfl⟩:=dL.1 e;obtain⟨h1,rfl⟩:=GU Jh;exact st ((Below.cell (p:=⟨bd (σ t),_,none⟩) hb d1).trans (d3 _ hσ h1))
def yF(yv:Nat->Nat->Nat)(σ:Nat->Nat)(m j:Nat):F:=Fin.ofNat 256 (yv (σ j) m)
theorem ai1{yv:Nat->Nat->Nat}(h:∀i m,yv i m<256)(σ:Nat->Nat)(m j:Nat):(yF yv σ m j).val=yv (σ j) m:=cu (h _ _)
def xF(K:Nat)(B:Nat->Nat->F)(yv:Nat->Nat->Nat)(σ:Nat->Nat)(t m:Nat):F:=F.dot K (B t) (yF yv σ m)
section
variable {q:CL}{σ bd od:Nat->Nat}{yv:Nat->Nat->Nat}{bp D_ bD bv h2 ba C:Nat}{b2:Nat->Nat}{B:Nat->Nat->F}{h0:Nat->aV}
theorem aml(hy:∀i m,yv i m<256)(t m:Nat)(hm:m<L):((Ea K L q σ bd od yv bp D_ bD bv h2 ba b2 B h0).res L t).getD m 0=(xF K B yv σ t m).val:=by
 have e:FC ((Ea K L q σ bd od yv bp D_ bD bv h2 ba b2 B h0).ws t) (Ea K L q σ bd od yv bp D_ bD bv h2 ba b2 B h0).cs=(List.range K).map λj=>((B t j).val,(List.range L).map (yv (σ j))):=by simp only[FC,Ea,jV];exact List.zip_map'
 unfold Env.res;rw[e,U6 (λj=>(B t j).val) (λj=>(List.range L).map (yv (σ j))) L m hm (λj=>ax) K]
 have e2:(λ(j r:Nat)=>r^^^mul (((List.range L).map (yv (σ j))).getD m 0) (B t j).val)=λj r=>r^^^mul (yF yv σ m j).val (B t j).val:=by
  funext j r
  rw[ai1 hy];simp[hm]
 rw[e2,afh K (B t) (yF yv σ m) K];rfl
theorem amm(t:Nat):((Ea K L q σ bd od yv bp D_ bD bv h2 ba b2 B h0).res L t).length=L:=by unfold Env.res;rw[C_];simp
theorem ai2(hK:K<=128)(hx:∀i,i<K->q.ix i<128)(vY:NF K q.ix σ)(hg:∃A,F.Gj K (mF K λs=>q.ix (σ s)) K A B){t:Nat}(ht:t<K)(e:q.ix (σ t)=t)(m:Nat):xF K B yv σ t m=yF yv σ m t:=by obtain⟨A,hg⟩:=hg;have h1:=F.ao2 hg (yF yv σ m) t ht;rw[F.zB ht ((anY hK vY hx).unit t ht (by rw[show(Fin.ofNat 256 (q.ix (σ t))).val=q.ix (σ t)from cu (by have:=hx _ (vY.lt t ht);omega),e];exact ht)).2]at h1;exact h1
theorem ao3[Payload][rq]{X:Nat->Prop}{Y:Nat->aV}{w2 v3 W W' v':ah}{s0:Nat}{l ids:aA}(hs:xZ X Y W v3){Wg:Nat}(hWg:W.heap.size=Wg+1)(atc:ba<Wg)(hn:0<K/\K<=128)(hx:∀i,i<K->q.ix i<128)(hS:DO w2 K q bd od yv)(uI:∀b,b<w2.heap.size->b<C)(hP:U5 K q σ bp D_ bD bv h2 ba C b2 B v3)
  (hk:∀b c t fr,¬(X b\/b=Wg)->W'.heap[b]?=some (.cells c t fr)->v'.heap[b]?=some (.cells c t fr)) (hX:∀b,X b->b<w2.heap.size)
  (hF:SF Wg C K (Wg+1) L (Ea K L q σ bd od yv bp D_ bD bv h2 ba b2 B (λb=>W.heap[b]?)) s0 K (gw W' l)) (BL:∀x,x∈ids↔(Ea K L q σ bd od yv bp D_ bD bv h2 ba b2 B (λb=>W.heap[b]?)).D8 K x)
  (Ce:∀x∈ids,∃v l',Has C x v W'/\W_ C L ((Ea K L q σ bd od yv bp D_ bD bv h2 ba b2 B (λb=>W.heap[b]?)).res L) x v (gw W' l')/\∀b∈l',Wg+1<=b):
  (∃dN:Nat->Nat,∀t,t<K->v'.cell? ⟨C,t,none⟩=some (.slice (some ⟨dN t,0,none⟩) L L)/\∀m,m<L->v'.cell? ⟨dN t,m,none⟩=some (.int .u8 (((xF K B yv σ t m).val:Nat):Int)))/\v'.cell? ⟨ba,0,none⟩=some (.slice (some ⟨C,0,none⟩) K K):=by
 obtain⟨n1,n2,n3,n4,n5,n6,n7,n8⟩:=hP.new;have hsz:=hs.size;have up:∀{b o:Nat}{u:ai},¬X b->b≠Wg->W'.cell? ⟨b,o,none⟩=some u->v'.cell? ⟨b,o,none⟩=some u:=λhx hb h=>afi (X:=λb=>X b\/b=Wg) hk (λe=>e.elim hx hb) h
 have lw:∀{b o:Nat}{u:ai},b<Wg->b≠C->v3.cell? ⟨b,o,none⟩=some u->v'.cell? ⟨b,o,none⟩=some u:=λ{b o u} h h' hc=>by exact azT
 have hXC:∀b,X b->b<C:=λb hb=>uI b (hX b hb)
 have aeR:∀t,t<K->∃N',v'.cell? ⟨C,t,none⟩=some (.slice (some ⟨N',0,none⟩) L L)/\∀m,m<L->v'.cell? ⟨N',m,none⟩=some (.int .u8 (((xF K B yv σ t m).val:Nat):Int)):=by
  intro t ht
  have fin:∀(N':Nat)(xs:aA),Wg+1<=N'->W'.heap[N']?=some (.cells (uh xs) 5)->xs.length=L->(∀m,m<L->xs.getD m 0=(xF K B yv σ t m).val)->∀m,m<L->v'.cell? ⟨N',m,none⟩=some (.int .u8 (((xF K B yv σ t m).val:Nat):Int)):=by intro N' xs h0 h1 h2 h3 m hm;refine up (λhx=>by have:=hXC N' hx;omega) ag ?_;simp only[World.cell?,h1];rw[yK,cO ag,fA,<-h3 m hm,bH,cO ag];rfl
  have upC:∀{o:Nat}{u:ai},W'.cell? ⟨C,o,none⟩=some u->v'.cell? ⟨C,o,none⟩=some u:=λh=>up (λhx=>by have:=hXC C hx;omega) ag h
  by_cases e:q.ix (σ t)=t
  .have hc:(Ea K L q σ bd od yv bp D_ bD bv h2 ba b2 B (λb=>W.heap[b]?)).cs[t]?=some (JE q bd od yv L (σ t)):=by
    show((List.range K).map _)[t]?=_;rw[dO,nO ht];rfl
   obtain⟨N',_,_,hmn,h1,h2⟩:=hF.dn t _ ht (λhm=>hm.2 e) hc;refine⟨N',upC h1,fin N' _ hmn.2 h2 (by simp[JE]) λm hm=>?_⟩;rw[ai2 hn.2 hx hP.pl hP.gj ht e,ai1 hS.yl];simp[JE,hm]
  .obtain⟨v,l',h1,⟨N',rfl,hmn,_,h2⟩,FI⟩:=Ce t ((BL t).2 ⟨ht,e⟩);exact⟨N',upC h1,fin N' _ (FI N' ((yZ W' l' N').1 hmn)) h2 (amm t) λm hm=>aml hS.yl t m hm⟩
 refine⟨⟨λt=>if h:t<K then(aeR t h).choose else 0,λt ht=>?_⟩,lw ag ag hP.va⟩;simp only[lI ht];exact(aeR t ht).choose_spec
end
end
theorem afj(E:Env):∀d j,UZ E j d<=d
 |0,_=>az _
 |d+1,j=>by unfold UZ;have:=afj E d (j+1);split<;>omega
section
variable {X:Nat->Prop}{Y:Nat->aV}{D:Nat->ah->aH->Prop}{Stop:aG->ah->Prop}{v:ah}{K C Wg j:Nat}{E:Env}{cs:aP}{f:aJ}
theorem ao4(hD:uU X D){T:aB}{ops:Array Oper}(hT:TS E Wg K j T)(hba:v.cell? ⟨E.ba,0,none⟩=some (.slice (some ⟨C,0,none⟩) K K))
  (Rw:∀τ d,∀w,qQ X Y w {v with tape:=τ,drawn:=d}->r_ prog D Stop (G (f.finish (.slice (some ⟨C,0,none⟩) K K)) cs) w):
  uA prog X Y D Stop 67 (f::cs) (.inRegion ops []::[.code afc]) ⟨T,[]⟩ v:=by
 obtain⟨v0,v1,v2,v3,v4,v5,v6,v8,v9,Wx,XR,Qa,Oh,Ud,Qk,Ql,v20,v21,v22,Ux,v24,Qm,v26,v27,v28,v29,v30,v31,v32,v33,v34,v35,v36,v37,v38,v39,v40,v41,v42,v43,v44,v45,v46,v50,v51,v52,v53,v54,v55,v56,v57,v58,v59,v60,v61,v62,v63,v64,v65,v66,v67,v68,rfl⟩:=hT;refine aaT hD ?_;unfold afc;simp only[o22,q22];refine rf qV hD aj rfl aba λR hR τ d'=>?_
 have uu:({v with tape:=τ,drawn:=d'}:ah).cell? ⟨E.ba,0,none⟩=some (.slice (some ⟨C,0,none⟩) K K):=hba;have hv1:=Rw τ d';generalize{v with tape:=τ,drawn:=d'}=v1 at uu hv1⊢;go_wp2;refine Ju (y:=.slice (some ⟨C,0,none⟩) K K) hD rfl func67 (λτ d=>?_) hv1;exact lH (fn:=Tryz.f67) (t:=4) rfl _ _ _
end
theorem ZC{Fin:Machine->Trace->Prop}(xE:∀m m' ops t,stepT prog m=(.next m',ops)->Fin m' (t++ops)->Fin m t){X:Nat->Prop}{Y:Nat->aV}{e:Nat}{gs:dE}{W v0:ah}{sl:Option (Nat×Nat)}{t:Trace}{qq:Nat->Nat}{fr:aJ}{cs:aP}{K M bc oc cap:Nat}{q:CL}{bd od:Nat->Nat}{yv:Nat->Nat->Nat}
  (h0:gs[0]?=some (G ((base 67).at ⟨#[.int .i64 (K:Int),.slice (some ⟨bc,oc,none⟩) M cap]++Array.replicate 67 undef,[]⟩ [.code JD]) (fr::cs))) (hB:Ji prog (uV X) e gs W t qq) (hs:qQ X Y W v0)
  (hK:0<K/\K<=128) (hKM:K<=M) (Ci:M<=cap) (hx:∀i,i<K->q.ix i<128) (hC:CO v0 bc oc K q) (ahR:∀i j,i<K->j<K->i≠j->q.ix i≠q.ix j) (hS:DO v0 K q bd od yv) (Rt:∀i,i<K->¬X (bd i)) (hL:q.L<=65536) (he:e+K<2147483648)
  (qJ:∀(e':Nat)(σ:Nat->Nat)(B:Nat->Nat->F)(C Wg:Nat)(dN:Nat->Nat)(Og:dE)(W':ah)(sl':Option (Nat×Nat))(t':Trace)(q':Nat->Nat)(Y':Nat->aV)(v':ah),e'<=e+K->NF K q.ix σ->(∃A,F.Gj K (mF K λs=>q.ix (σ s)) K A B)->Og[0]?=some (G (fr.finish (.slice (some ⟨C,0,none⟩) K K)) cs)->
   Ji prog (uV λb=>X b\/b=Wg) e' Og W' t' q'->qQ (λb=>X b\/b=Wg) Y' W' v'->W.heap.size<=Wg->Sub v0 v'->KpX X W W'->
   (∀t,t<K->v'.cell? ⟨C,t,none⟩=some (.slice (some ⟨dN t,0,none⟩) q.L q.L)/\∀m,m<q.L->v'.cell? ⟨dN t,m,none⟩=some (.int .u8 (((xF K B yv σ t m).val:Nat):Int)))->Fin (crowd Og W' sl') t'):
  Fin (crowd gs W sl) t:=by
 have xU:=hs;obtain⟨τ0,dd0,Ou⟩:=xU;have Np:∀b,X b->b<v0.heap.size:=λb hb=>Ou.bound b (.inl hb)
 refine late (Fin:=Fin) (Shun:=uV X) (e:=e) (Stop:=λgr W=>∃(σ:Nat->Nat)(bp D_ bD bv h2 ba C:Nat)(b2:Nat->Nat)(B:Nat->Nat->F)(T:aB)(v3:ah),gr=G ((base 67).at ⟨T,[]⟩ [.code c12]) (fr::cs)/\qQ X Y W v3/\amg bp K D_ bv ba T/\U5 K q σ bp D_ bD bv h2 ba C b2 B v3/\(∀b,b<v0.heap.size->b<C)/\(v0.heap.size<=bp/\v0.heap.size<=D_/\v0.heap.size<=bD/\v0.heap.size<=bv/\v0.heap.size<=h2/\∀t,t<K->v0.heap.size<=b2 t)/\sH v0.heap.size v0 v3) xE (λ_ _ _ h=>h) (λgs1 a1 W1 sl1 t1 q1 h01 uw I8=>?_)
  (abb (xX X) (cs:=fr::cs) (Y:=Y) hK hKM Ci hx hC ahR (λσ bp D_ bD bv h2 ba C b2 B T w1 a1 a2 a3 a4 a5 w hw=>.stop λdd=>⟨σ,bp,D_,bD,bv,h2,ba,C,b2,B,T,w1,rfl,hw.at dd,a1,a2,a3,a4,a5⟩) W hs) W.drawn gs sl t qq h0 hB
 obtain⟨σ,bp,D_,bD,bv,h2,ba,Cc,b2,B,T,v3,rfl,hW1,hTP,abf,uI,Ws,QE⟩:=uw W1.drawn;replace hW1:qQ X Y W1 v3:=hW1;letI:rq:=⟨X⟩;obtain⟨n1,n2,n3,n4,n5,n6,n7,n8⟩:=abf.new;have ahQ:W1.heap.size=v3.heap.size:=by obtain⟨_,_,h⟩:=hW1;exact h.size
 have aiO:Ji prog (H_ W1.heap.size) e gs1 W1 t1 q1:=I8.more (λl h=>.inr h) (λl h=>h.elim (λ⟨a,ea,ya⟩=>.inr ⟨a,ea,fQ ya.symm⟩) .inl);obtain⟨T',hTW,hG⟩:=abe (D:=DM (H_ W1.heap.size)) (λn w h=>⟨h,ax⟩) (cs:=fr::cs) W1 hTP;refine late (Fin:=Fin) (Shun:=H_ W1.heap.size) (e:=e) xE (λ_ _ _ h=>h) (λgs2 a2 W2 sl2 t2 q2 h02 aln Ap=>?_) (hG (λgr w=>gr=G ((base 67).at ⟨T',[]⟩ [.code zF]) (fr::cs)/\∃dd d',w=((W1.at dd).alloc (wgBlock link.tWg 0 0)).at d') (λdd d'=>⟨rfl,dd,d',rfl⟩)) W1.drawn gs1 sl1 t1 q1 h01 aiO;obtain⟨rfl,dd,d',Mc⟩:=aln W2.drawn;replace Mc:W2=((W1.at dd).alloc (wgBlock link.tWg 0 0)).at d':=Mc;generalize hWg:W1.heap.size=Wg at*
 have hS2:qQ X Y W2 (v3.alloc (wgBlock link.tWg 0 0)):=by exact ayD
 have wH:W2.heap.size=Wg+1:=awN
 have Ue:W2.heap[Wg]?=some (wgBlock link.tWg 0 0):=by exact ayE
 have hl2:∀b,b<Wg->W2.heap[b]?=W1.heap[b]?:=λb hb=>by exact ayV
 obtain⟨τ2,dd2,yY⟩:=hS2;have hPF:=(abf.alloc (wgBlock link.tWg 0 0)).tp τ2 dd2;have wI:sH v0.heap.size v0 {v3.alloc (wgBlock link.tWg 0 0)with tape:=τ2,drawn:=dd2}:=(QE.trans (sH.of ((aT v3.heap.size v3).alloc (az _) _)) QE.sN).tp τ2 dd2;generalize({v3.alloc (wgBlock link.tWg 0 0)with tape:=τ2,drawn:=dd2}:ah)=v4 at yY hPF wI;letI:Payload:=⟨34⟩;letI:yO:=⟨W2.output,W2.os⟩;have aiP:RQ (Ea K q.L q σ bd od yv bp D_ bD bv h2 ba b2 B (λb=>W2.heap[b]?)) K q.L:=amk hK ag (λt ht=>hx _ (abf.pl.lt t ht)) hS.yl;have hSF:=ai0 (lw:=v0.heap.size) (L:=q.L) rfl Np Np Ws yY hS Rt rfl wI uI hPF wH ag;have hSp:=aiR (cs:=fr::cs) aiP (hTW _ rfl rfl rfl rfl rfl rfl) hSF;have auM:=afj (Ea K q.L q σ bd od yv bp D_ bD bv h2 ba b2 B (λb=>W2.heap[b]?)) K 0;refine Zy (Fin:=Fin) (ty:=link.tWg) xE h02 Ap (λb hb=>?_) (dV _) ag ag ag Ue hSF.pay hSp ⟨λ_ _ _ _ r h=>W_.rely h r,λ_ _ _ _ r h=>KR.rely h r⟩ ag rfl rfl (λids gs3 a3 W3 lb sl3 t3 q3 h03 ho hos hwk hK3 hp Ce Ov=>?_)
 .have:=Np b hb;have:=uI b this;omega
 obtain⟨T1,s0,j,ops,rfl,hTS,OT,BL⟩:=hK3;have UT:∀b,b<Wg->b≠Cc->W3.heap[b]?=W2.heap[b]?:=λb hb hc=>OT.low.UT b ag ag hc
 have hXC:∀b,X b->b<Wg/\b≠Cc:=λb hb=>by have h1:=Np b hb;have:=uI b h1;omega
 obtain⟨Y',v',xI,WA⟩:=Uj W3 (λb=>X b\/b=Wg) (λb hb=>by
  rcases hb with hb|rfl
  .exact ayQ
  .obtain⟨st,sm,hw⟩:=hwk;exact⟨_,_,hw⟩)
 obtain⟨⟨dN,hd⟩,hba⟩:=ao3 yY wH ag hK hx hS uI hPF WA Np OT BL Ce
 have Qc:∀{b:Nat}{c:aB}{ty:aF}{fz:Nat×Nat},v0.heap[b]?=some (.cells c ty fz)->v'.heap[b]?=some (.cells c ty fz):=λ{b c ty fz} h=>by
  have h1:b<v0.heap.size:=(dh.1 h).1;have h2:=uI b h1;have h3:v4.heap[b]?=some (.cells c ty fz):=(wI.blk h1).trans h;by_cases hx:X b
  .exact ayU
  .exact ayS
 have e1:v'.heap.size=W3.heap.size:=xI.size.symm;have e2:Wg+1<=W3.heap.size:=bu OT.sb.2.1 OT.sb.2.2;have aq9:v0.heap.size<=v3.heap.size:=QE.sN;have hD':uU (λb=>X b\/b=Wg) (DM (H_ Wg)):=Zx λl h=>h.elim (λ⟨a,ea,ya⟩=>⟨a,ea,.inr ya⟩) (λ⟨a,ea,ya⟩=>⟨a,ea,.inl ya⟩)
 refine late (Fin:=Fin) (Shun:=H_ Wg) (e:=e+UZ (Ea K q.L q σ bd od yv bp D_ bD bv h2 ba b2 B (λb=>W2.heap[b]?)) 0 K) (Stop:=λgr w=>gr=G (fr.finish (.slice (some ⟨Cc,0,none⟩) K K)) cs/\qQ (λb=>X b\/b=Wg) Y' w v') xE (λ_ _ _ h=>h) (λWp a4 W4 XQ t4 q4 h04 aiQ IM=>?_) (ao4 (X:=λb=>X b\/b=Wg) (Y:=Y') hD' hTS hba (λτ dd w1 BB=>.stop λd6=>⟨rfl,BB.at d6⟩) W3 xI.t) W3.drawn gs3 sl3 t3 q3 h03 Ov;obtain⟨rfl,DY⟩:=aiQ W4.drawn;replace DY:qQ (λb=>X b\/b=Wg) Y' W4 v':=DY;refine qJ _ σ B Cc Wg dN Wp W4 XQ t4 q4 Y' v' ag abf.pl abf.gj h04 (IM.more (λl h=>h.elim (λ⟨a,ea,ya⟩=>⟨a,ea,.inr ya⟩) (λ⟨a,ea,ya⟩=>⟨a,ea,.inl ya⟩)) (λl ⟨a,ea,ya⟩=>.inl (ya.elim (λy=>.inr ⟨a,ea,y⟩) (λy=>.inl ⟨a,ea,y⟩)))) DY ?_ ⟨ag,λb c ty fz hx=>Qc hx⟩ ?_ hd
 .exact ayH
 .have yz:W.heap.size=v0.heap.size:=Ou.size;obtain⟨τ5,d5,OU⟩:=DY;obtain⟨τ1,d1,WB⟩:=hW1;have z5:W4.heap.size=v'.heap.size:=OU.size;refine⟨?_,?_,ag,λb hb hx=>?_⟩
  .exact ay3
  .exact azj
  .exact azb
theorem ZE{Fin:Machine->Trace->Prop}(xE:∀m m' ops t,stepT prog m=(.next m',ops)->Fin m' (t++ops)->Fin m t){X:Nat->Prop}{Y:Nat->aV}{e:Nat}{gs:dE}{W v0:ah}{sl:Option (Nat×Nat)}{t:Trace}{qq:Nat->Nat}{fr:aJ}{cs:aP}{K N:Nat}{l:ak}{vd:ai}
  (h0:gs[0]?=some (G ((base 29).at ⟨#[.int .i64 ((K:Nat):Int),.int .i64 ((N:Nat):Int),vd]++Array.replicate 23 undef,[]⟩ [.code zD]) (fr::cs))) (hB:Ji prog (uV X) e gs W t qq) (hs:qQ X Y W v0)
  (hk0:1<=K) (hkn:K<=N) (hn:N<=128) (Oq:l.length<=65536) (hv:qU v0 vd (sJ l)) (he:e+N<2147483648)
  (qJ:∀(C Wg:Nat)(dN:Nat->Nat)(Og:dE)(W':ah)(sl':Option (Nat×Nat))(t':Trace)(q':Nat->Nat)(Y':Nat->aV)(v':ah),Og[0]?=some (G (fr.finish (.slice (some ⟨C,0,none⟩) N N)) cs)->
   Ji prog (uV λb=>X b\/b=Wg) (e+N) Og W' t' q'->qQ (λb=>X b\/b=Wg) Y' W' v'->W.heap.size<=Wg->v0.heap.size<=C->Sub v0 v'->KpX X W W'->
   (∀t,t<N->v'.cell? ⟨C,t,none⟩=some (.slice (some ⟨dN t,0,none⟩) (ug K l.length) (ug K l.length))/\v'.heap[dN t]?=some (.cells (sJ (zW K (ug K l.length) l t)).toArray 5))->Fin (crowd Og W' sl') t'):
  Fin (crowd gs W sl) t:=by
 have xU:=hs;obtain⟨τ0,dd0,Ou⟩:=xU;have Np:∀b,X b->b<v0.heap.size:=λb hb=>Ou.bound b (.inl hb)
 refine late (Fin:=Fin) (Shun:=uV X) (e:=e) (Stop:=λgr W=>∃(bk bd Pp Ff ba C:Nat)(T:aB)(v3:ah),gr=G ((base 29).at ⟨T,[]⟩ [.code gc3]) (fr::cs)/\qQ X Y W v3/\TPc bk bd ba T/\PFc K N (ug K l.length) l bk bd Pp Ff ba C v3/\(∀b,b<v0.heap.size->b<C)/\(v0.heap.size<=bk/\v0.heap.size<=bd/\v0.heap.size<=Pp/\v0.heap.size<=Ff)/\sH v0.heap.size v0 v3) xE (λ_ _ _ h=>h) (λgs1 a1 W1 sl1 t1 q1 h01 uw I8=>?_)
  (RU (xX X) (cs:=fr::cs) (Y:=Y) hk0 hkn hn Oq hv (λbk bd Pp Ff ba C T w1 a1 a2 a3 a4 a5 w hw=>.stop λdd=>⟨bk,bd,Pp,Ff,ba,C,T,w1,rfl,hw.at dd,a1,a2,a3,a4,a5⟩) W hs) W.drawn gs sl t qq h0 hB
 obtain⟨bk,bd,Pp,Ff,ba,Cc,T,v3,rfl,hW1,hTP,abf,uI,Ws,QE⟩:=uw W1.drawn;replace hW1:qQ X Y W1 v3:=hW1;letI:rq:=⟨X⟩;obtain⟨n1,n2,n3,n4,n5,n6⟩:=abf.new;have ahQ:W1.heap.size=v3.heap.size:=by obtain⟨_,_,h⟩:=hW1;exact h.size
 have aiO:Ji prog (H_ W1.heap.size) e gs1 W1 t1 q1:=I8.more (λl h=>.inr h) (λl h=>h.elim (λ⟨a,ea,ya⟩=>.inr ⟨a,ea,fQ ya.symm⟩) .inl);obtain⟨T',hTW,hG⟩:=UY (D:=DM (H_ W1.heap.size)) (λn w h=>⟨h,ax⟩) (cs:=fr::cs) W1 hTP;refine late (Fin:=Fin) (Shun:=H_ W1.heap.size) (e:=e) xE (λ_ _ _ h=>h) (λgs2 a2 W2 sl2 t2 q2 h02 aln Ap=>?_) (hG (λgr w=>gr=G ((base 29).at ⟨T',[]⟩ [.code Ar]) (fr::cs)/\∃dd d',w=((W1.at dd).alloc (wgBlock link.tWg 0 0)).at d') (λdd d'=>⟨rfl,dd,d',rfl⟩)) W1.drawn gs1 sl1 t1 q1 h01 aiO;obtain⟨rfl,dd,d',Mc⟩:=aln W2.drawn;replace Mc:W2=((W1.at dd).alloc (wgBlock link.tWg 0 0)).at d':=Mc;generalize hWg:W1.heap.size=Wg at*
 have hS2:qQ X Y W2 (v3.alloc (wgBlock link.tWg 0 0)):=by exact ayD
 have wH:W2.heap.size=Wg+1:=awN
 have Ue:W2.heap[Wg]?=some (wgBlock link.tWg 0 0):=by exact ayE
 have hl2:∀b,b<Wg->W2.heap[b]?=W1.heap[b]?:=λb hb=>by exact ayV
 obtain⟨τ2,dd2,yY⟩:=hS2;have hPF:=(abf.alloc (wgBlock link.tWg 0 0)).tp τ2 dd2;have wI:sH v0.heap.size v0 {v3.alloc (wgBlock link.tWg 0 0)with tape:=τ2,drawn:=dd2}:=(QE.trans (sH.of ((aT v3.heap.size v3).alloc (az _) _)) QE.sN).tp τ2 dd2;generalize({v3.alloc (wgBlock link.tWg 0 0)with tape:=τ2,drawn:=dd2}:ah)=v4 at yY hPF wI;letI:Payload:=⟨34⟩;letI:yO:=⟨W2.output,W2.os⟩;have hLb:=D5 (k:=K) ag l.length;have aiP:QA (Ja K (ug K l.length) l bk bd Pp Ff ba (λb=>W2.heap[b]?)) K N (ug K l.length):=afe ag ag ag;have hSF:=Yi (lw:=v0.heap.size) rfl Np Np Ws yY hPF wH ag;have hSp:=Ye (cs:=fr::cs) aiP (hTW _ rfl rfl rfl) hSF;refine Zy (Fin:=Fin) (ty:=link.tWg) xE h02 Ap (λb hb=>?_) (dV _) ag ag ag Ue hSF.pay hSp ⟨λ_ _ _ _ r h=>W_.rely h r,λ_ _ _ _ r h=>KC.rely h r⟩ he rfl rfl (λids gs3 a3 W3 lb sl3 t3 q3 h03 ho hos hwk hK3 hp Ce Ov=>?_)
 .have:=Np b hb;have:=uI b this;omega
 obtain⟨T1,s0,j,ops,rfl,hTS,OT,BL⟩:=hK3;have UT:∀b,b<Wg->b≠Cc->W3.heap[b]?=W2.heap[b]?:=λb hb hc=>OT.low.UT b ag ag hc
 have hXC:∀b,X b->b<Wg/\b≠Cc:=λb hb=>by have h1:=Np b hb;have:=uI b h1;omega
 obtain⟨Y',v',xI,WA⟩:=Uj W3 (λb=>X b\/b=Wg) (λb hb=>by
  rcases hb with hb|rfl
  .exact ayQ
  .obtain⟨st,sm,hw⟩:=hwk;exact⟨_,_,hw⟩)
 obtain⟨⟨dN,hd⟩,_,hba⟩:=aff yY wH ag wI uI hPF WA Np OT BL Ce
 have Qc:∀{b:Nat}{c:aB}{ty:aF}{fz:Nat×Nat},v0.heap[b]?=some (.cells c ty fz)->v'.heap[b]?=some (.cells c ty fz):=λ{b c ty fz} h=>by
  have h1:b<v0.heap.size:=(dh.1 h).1;have h2:=uI b h1;have h3:v4.heap[b]?=some (.cells c ty fz):=(wI.blk h1).trans h;by_cases hx:X b
  .exact ayU
  .exact ayS
 have e1:v'.heap.size=W3.heap.size:=xI.size.symm;have e2:Wg+1<=W3.heap.size:=bu OT.sb.2.1 OT.sb.2.2;have aq9:v0.heap.size<=v3.heap.size:=QE.sN;have hD':uU (λb=>X b\/b=Wg) (DM (H_ Wg)):=Zx λl h=>h.elim (λ⟨a,ea,ya⟩=>⟨a,ea,.inr ya⟩) (λ⟨a,ea,ya⟩=>⟨a,ea,.inl ya⟩)
 refine late (Fin:=Fin) (Shun:=H_ Wg) (e:=e+N) (Stop:=λgr w=>gr=G (fr.finish (.slice (some ⟨Cc,0,none⟩) N N)) cs/\qQ (λb=>X b\/b=Wg) Y' w v') xE (λ_ _ _ h=>h) (λWp a4 W4 XQ t4 q4 h04 aiQ IM=>?_) (anU (X:=λb=>X b\/b=Wg) (Y:=Y') hD' hTS hba (λτ dd w1 BB=>.stop λd6=>⟨rfl,BB.at d6⟩) W3 xI.t) W3.drawn gs3 sl3 t3 q3 h03 Ov;obtain⟨rfl,DY⟩:=aiQ W4.drawn;replace DY:qQ (λb=>X b\/b=Wg) Y' W4 v':=DY;refine qJ Cc Wg dN Wp W4 XQ t4 q4 Y' v' h04 (IM.more (λl h=>h.elim (λ⟨a,ea,ya⟩=>⟨a,ea,.inr ya⟩) (λ⟨a,ea,ya⟩=>⟨a,ea,.inl ya⟩)) (λl ⟨a,ea,ya⟩=>.inl (ya.elim (λy=>.inr ⟨a,ea,y⟩) (λy=>.inl ⟨a,ea,y⟩)))) DY ?_ ?_ ⟨ag,λb c ty fz hx=>Qc hx⟩ ?_ (λt ht=>⟨(hd t ht).1,axX⟩)
 .exact ayH
 .rcases fE v0.heap.size with h|h
  .omega
  .have:=uI (v0.heap.size-1) ag;omega
 .have yz:W.heap.size=v0.heap.size:=Ou.size;obtain⟨τ5,d5,OU⟩:=DY;obtain⟨τ1,d1,WB⟩:=hW1;have z5:W4.heap.size=v'.heap.size:=OU.size;refine⟨?_,?_,ag,λb hb hx=>?_⟩
  .exact ay3
  .exact azj
  .exact azb
