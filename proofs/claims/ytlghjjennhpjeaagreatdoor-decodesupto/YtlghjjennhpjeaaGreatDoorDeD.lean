import Derived.Test.YtlghjjennhpjeaaGreatDoorEnU
import Derived.Test.YtlghjjennhpjeaaGreatDoorDeA
set_option maxHeartbeats 8000000
set_option maxRecDepth 100000
namespace Go.Proofs.Y
open Go.RowKit Go.Deep Go.Lf Go.Conc Go.Hp
structure FA(K N C m:Nat)(g:Nat->rU)(l:aj)(pc gm bh:Nat)(vn vs vj:ai)(w u w':ah):Prop where
 par:ql u pc [.int .i64 ((K:Nat):Int),.int .i64 ((N:Nat):Int),.int .i64 ((C:Nat):Int)] 60
 nm:qP u vn (uU (uf m g))
 sz:qP u vs (Jp (uJ m g))
 man:xM u gm 0 (Oi (Gp (uf m g) (uJ m g) (uf m g).length))
 gml:gm<u.heap.size
 tab:LQ u
 us:u.heap.size=bh
 wu:tX w.heap.size w u
 xG:tX bh u w'
 sh:w'.heap[bh]?=some (.cells (madeCells #[.slice none 0 0] N) 24)
 dat:qP w' vj (rP l)
def arO(m:Nat)(g:Nat->rU):Nat:=(Oi (Gp (uf m g) (uJ m g) (uf m g).length)).length
section
variable {X:Nat->Prop}{Y:Nat->aZ}{D:Nat->ah->aN->Prop}{Stop:aI->ah->Prop}{w:ah}{K N C m cap:Nat}{bo:aW}{g:Nat->rU}{d:rU->aj}
end
def T28(T:aH):Prop:=∃f:Nat->ai,T=#[f 0,f 1,f 2,f 3,f 4,f 5,f 6,f 7,f 8,f 9,f 10,f 11,f 12,f 13,f 14,f 15,f 16,f 17,f 18,f 19,f 20,f 21,f 22,f 23,f 24,f 25,f 26,f 27]
section
variable {X:Nat->Prop}{Y:Nat->aZ}{D:Nat->ah->aN->Prop}{Stop:aI->ah->Prop}{w:ah}{K N C m cap:Nat}{bo:aW}{f:Nat->rU}{d:rU->aj}
end
end Go.Proofs.Y
namespace Go.Proofs.Y
open Go.RowKit Go.Deep Go.Hp
theorem afY(a:Nat->Nat)(b:Nat->aC)(n:Nat):((List.range n).map a).zip ((List.range n).map b)=(List.range n).map λj=>(a j,b j):=by rw[List.zip_map']
theorem aaE(r x:Nat->Nat)(hr:∀j,r j<256)(hx:∀j,x j<256):∀n,Nat.rec (motive:=λ_=>Nat) 0 (λj s=>s^^^mul (x j) (r j)) n=A7 r x n
 |0=>rfl
 |n+1=>by show _^^^_=A7 r x n^^^mul (r n) (x n);rw[aaE r x hr hx n,mul_comm (hx n) (hr n)]
theorem aoe(k L:Nat)(l:aj)(bk bd P F ba:Nat)(h0:Nat->aZ)(t:Nat):(Ju k L l bk bd P F ba h0).res k L t=(List.range L).map λm=>A7 (sN k t) (λj=>Ox l L j m) k:=by
 have hz:E_ ((List.range k).map (sN k t)) (Ju k L l bk bd P F ba h0).cs=(List.range k).map λj=>(sN k t j,(List.range L).map λm=>sV l (j*L+m)):=by unfold E_ Ju;simp only[kV];exact afY _ _ _
 have hlen:((Ju k L l bk bd P F ba h0).res k L t).length=L:=by unfold FU.res;rw[Ce];simp
 apply jk;intro m;by_cases hm:m<L
 .have key:=UE (sN k t) (λj=>(List.range L).map λm=>sV l (j*L+m)) L m hm (λj=>aA) k;rw[<-hz]at key
  have e:∀j,((List.range L).map λm=>sV l (j*L+m)).getD m 0=Ox l L j m:=λj=>by simp[hm,Ox]
  simp only[e]at key;rw[aaE (sN k t) (λj=>Ox l L j m) (λ_=>Am) (λj=>Ha _ _)]at key;have h1:((Ju k L l bk bd P F ba h0).res k L t).getD m 0=A7 (sN k t) (λj=>Ox l L j m) k:=key;rw[bG]at h1;rw[bQ (by rw[hlen];exact hm)]at h1⊢;simp only[bf]at h1;rw[h1];simp[hm]
 .rw[h_ (by rw[hlen];omega),h_ aJ]
end Go.Proofs.Y
namespace Go.Proofs.Y
open Go.RowKit Go.Deep Go.Lf Go.Conc Go.Hp
def Sub(u v:ah):Prop:=u.heap.size<=v.heap.size/\∀(b:Nat)(c:aH)(t:aG)(fr:Nat×Nat),u.heap[b]?=some (.cells c t fr)->v.heap[b]?=some (.cells c t fr)
section
variable {u v:ah}
theorem Sub.cell(h:Sub u v){b o:Nat}{x:ai}(hc:u.cell? ⟨b,o,none⟩=some x):v.cell? ⟨b,o,none⟩=some x:=by
 have h':=hc;unfold World.cell? at h';cases e:u.heap[b]? with
 |none=>simp only[e]at h';cases h'
 |some y=>
  cases y with
  |cells c t fr=>
   have:=h.2 b c t fr e;simp only[World.cell?,e]at hc;simp only[World.cell?,this];exact hc
  |_=>simp only[e]at h';cases h'
theorem Sub.row(h:Sub u v){b:Nat}{cs:aK}{t:aG}(hr:ql u b cs t):ql v b cs t:=h.2 _ _ _ _ hr
theorem Sub.lies(h:Sub u v){x:ai}{xs:aK}(hl:qP u x xs):qP v x xs:=by
 obtain⟨ba,cap,e,h1,h2⟩:=hl
 exact⟨ba,cap,e,h1,λj y hj=>by obtain⟨b,off,h3,h4⟩:=h2 j y hj;exact⟨b,off,h3,h.cell h4⟩⟩
theorem Sub.tab(h:Sub u v)(ht:LQ u):LQ v:=⟨bH ht.1 h.1,λi hi=>h.cell (ht.2 i hi)⟩
end
structure KX(bh:Nat)(a b:ah):Prop where
 os:b.os=a.os
 output:b.output=a.output
 size:a.heap.size<=b.heap.size
 block:∀x,x<a.heap.size->x≠bh->b.heap[x]?=a.heap[x]?
structure VA(K N L Cc bh:Nat)(dN:Nat->Nat)(l:aj)(v:ah):Prop where
 qC:∀t,t<N->v.cell? ⟨Cc,t,none⟩=some (.slice (some ⟨dN t,0,none⟩) L L)
 LV:∀t,t<N->v.heap[dN t]?=some (.cells (rP (He K L l t)).toArray 5)
 ne:Cc≠bh
structure LA(K N C m L bh:Nat)(g:Nat->rU)(l:aj)(v0:ah)(i:Nat)(ov:Nat->ai)(v:ah):Prop where
 kx:KX bh v0 v
 sh:∃cur:aH,v.heap[bh]?=some (.cells cur 24)/\cur.size=N/\∀t,t<i->cur[t]?=some (ov t)
 own:∀t,t<i->BK 0 v (ov t) (aof K N C (uf m g) (uJ m g) t (He K L l t))
section
variable {K N C m L Cc bh:Nat}{dN:Nat->Nat}{g:Nat->rU}{l:aj}{v0 v:ah}{i:Nat}{ov:Nat->ai}
end
section
variable {X:Nat->Prop}{Y:Nat->aZ}{D:Nat->ah->aN->Prop}{Stop:aI->ah->Prop}{cs:aT}{cfr:aS}
end
section
variable {X:Nat->Prop}{Y:Nat->aZ}{D:Nat->ah->aN->Prop}{Stop:aI->ah->Prop}{v:ah}{cs:aT}{cfr:aS}
end
end Go.Proofs.Y
namespace Go.Proofs.Y
open Go.RowKit Go.Deep Go.Lf Go.Conc Go.ConcN Go.Gh Go.Hp
open Go.ConcR (Payload WgAt wgBlock)
def wX(X:Nat->Prop)(l:Loc):Prop:=∃a:Addr,l=.cell a/\X a.block
theorem BV(X:Nat->Prop):zN X (DM (wX X)):=acW λ_ h=>h
theorem PFc.tp{k n L:Nat}{l:aj}{bk bd P F ba C:Nat}{w:ah}(h:PFc k n L l bk bd P F ba C w)(τ:Nat->Question->Nat)(d:Nat):PFc k n L l bk bd P F ba C {w with tape:=τ,drawn:=d}:=⟨h.vk,h.vd,h.hP,h.hF,h.va,h.pay,h.new⟩
theorem PFc.alloc{k n L:Nat}{l:aj}{bk bd P F ba C:Nat}{w:ah}(h:PFc k n L l bk bd P F ba C w)(o:Obj):PFc k n L l bk bd P F ba C (w.alloc o):=by obtain⟨n1,n2,n3,n4,n5,n6⟩:=h.new;exact⟨uO o h.vk,uO o h.vd,λj hj=>uO o (h.hP j hj),λi hi=>uO o (h.hF i hi),uO o h.va,(dI _ _ _ ag).trans h.pay,⟨n1,n2,n3,n4,n5,aJ⟩⟩
structure FkD(K N C m:Nat)(f:Nat->rU)(d:rU->aj)(v0:ah)(g:Nat->rU)(T18 arP T:aH)(rest:aC)(x vn vs vj:ai)(pc gm cm bh bk bd Pp Ff ba Cc:Nat)(wc u w2 v3:ah):Prop where
 t18:T28 T18
 ta:TA pc vn vs (.slice (some ⟨gm,0,none⟩) (arO m g) cm) (.slice (some ⟨bh,0,none⟩) N N) x arP
 lf:Left x rest
 tp:TPc bk bd ba T
 pf:PFc K N (rO K (qM (λj=>d (g j)) m).length) (qM (λj=>d (g j)) m) bk bd Pp Ff ba Cc v3
 low:∀b,b<w2.heap.size->b<Cc
 ge:w2.heap.size<=bk/\w2.heap.size<=bd/\w2.heap.size<=Pp/\w2.heap.size<=Ff
 fa:FA K N C m g (qM (λj=>d (g j)) m) pc gm bh vn vs vj wc u w2
 b3:tX w2.heap.size w2 v3
 vu:tX v0.heap.size v0 u
 re:qX m f g
 lt:∀i,i+1<m->Hp.lt (g i).k (g (i+1)).k=true
 nm:Dk (uf m g)
 fw:aqe (uf m g) (uJ m g)
 jl:(qM (λj=>d (g j)) m).length<=65536
theorem acX{D:Nat->ah->aN->Prop}(hD0:∀n w,n<=w.heap.size->D n w #[]){cs:aT}{bk bd ba:Nat}{T:aH}(W:ah)(hT:TPc bk bd ba T):
  ∃T',(∀E:FU,E.bk=bk->E.bd=bd->E.ba=ba->TB E W.heap.size T')/\∀Stop:aI->ah->Prop,(∀dd d',Stop (G ((base 53).at ⟨T',[]⟩ [.code Ap]) cs) (((W.at dd).alloc (wgBlock link.tWg 0 0)).at d'))->sU Tryz.prog D Stop (G ((base 53).at ⟨T,[]⟩ [.code gc3]) cs) W:=by
 obtain⟨f,rfl⟩:=hT;rw[aog]
 have key:∀(Stop:aI->ah->Prop)(a:Act)(o:Oper)(u:ai),og3[0]?=some o->a.defers=[]->Region.wanted o (yielded og3 a.tmps)=true->(∀z:ah,z.heap.size=W.heap.size->(execOp a.eval o).run Tryz.prog z=.ok (.value u) (z.alloc (wgBlock link.tWg 0 0)))->(∀z,listed Tryz.prog 53 a o z=#[])->
   (∀dd d',Stop (G ((base 53).at (a.put o.dst u) [.code Ap]) cs) (((W.at dd).alloc (wgBlock link.tWg 0 0)).at d'))->sU Tryz.prog D Stop (G ((base 53).at a [.code (.seq (.region 3 og3 false) Ap)]) cs) W:=by
  intro Stop a o u ho ha hw hr hl uw;refine .next rfl λd1=>⟨_,_,_,aX,hD0 _ _ (ay _),.next rfl λd2=>⟨_,_,_,dW,hD0 _ _ (ay _),?_⟩⟩
  rw[ng3];simp only[List.range,List.range.loop];refine .next rfl λd3=>⟨_,_,_,stepG_value (b:=base _) ho hw oh (hr _ rfl),?_,.next rfl λd4=>⟨_,_,_,bg,hD0 _ _ (ay _),.stop λd5=>uw d3 d5⟩⟩
  rw[show(base 53).fn=53 from rfl,hl];exact hD0 _ _ (by simp[World.at])
 refine⟨(#[f 0,f 1,f 2,.pointer (some ⟨bk,0,none⟩),f 4,f 5,f 6,.pointer (some ⟨bd,0,none⟩),.pointer (some ⟨ba,0,none⟩),f 9,f 10,f 11,f 12,f 13,f 14,f 15,f 16,f 17,f 18,f 19,f 20,f 21,f 22,f 23,f 24,f 25]:aH).setIfInBounds 9 (.pointer (some ⟨W.heap.size,0,none⟩)),λE h1 h2 h3=>?_,λStop uw=>?_⟩
 .subst h1 h2 h3;exact⟨λi=>if i=9 then undef else f i,rfl⟩
 .refine key Stop _ _ (.pointer (some ⟨W.heap.size,0,none⟩)) (by simp only[og3,qg3];rfl) rfl rfl (λz hz=>by rw[<-hz];go_simp;rfl) (λz=>listed_nil bV) ?_;exact uw
theorem afZ(k L:Nat)(l:aj)(bk bd P F ba:Nat)(h0:Nat->aZ)(t:Nat):tK ((Ju k L l bk bd P F ba h0).res k L t)=(rP (He k L l t)).toArray:=by rw[aoe,aio];unfold tK Be;rw[kV];rfl
structure KpX(X:Nat->Prop)(w w':ah):Prop where
 os:w'.os=w.os
 output:w'.output=w.output
 size:w.heap.size<=w'.heap.size
 block:∀b,b<w.heap.size->¬X b->w'.heap[b]?=w.heap[b]?
end Go.Proofs.Y
namespace Go.Proofs.Y
open Go.Conc Go.ConcN Go.RowKit Go.Gh Go.Conc.Lib Go.ConcR.Gen Go.ConcN.Gen
open Go.ConcR (Payload)
theorem n13:o13.size=3:=ak
section
variable [Payload][qR]{Wg C k B L:Nat}{E:Env}
def TW(E:Env)(Wg k:Nat)(T:aH):Prop:=∃f:Nat->ai,T=#[f 0,f 1,f 2,f 3,f 4,.slice (some ⟨E.bp,E.op,none⟩) k E.cp,f 6,.pointer (some ⟨E.bd,0,none⟩),f 8,f 9,.pointer (some ⟨E.bv,0,none⟩),.pointer (some ⟨E.ba,0,none⟩),.pointer (some ⟨Wg,0,none⟩),f 13,f 14,f 15,f 16,f 17,f 18,f 19,f 20,f 21,f 22,f 23,f 24,f 25,f 26,f 27,f 28,f 29,f 30,f 31,f 32,f 33,f 34,f 35,f 36,f 37,f 38,f 39,f 40,f 41,f 42,f 43,f 44,f 45,f 46,f 47,f 48,f 49,f 50,f 51,f 52,f 53,f 54,f 55,f 56,f 57,f 58,f 59,f 60,f 61,f 62,f 63,f 64,f 65,f 66,f 67,f 68]
theorem aip(hE:QV E k L){cs:aT}{T:aH}{w:ah}{s0:Nat}(hT:TW E Wg k T)(hF:SF Wg C k B L E s0 0 w):
  Sp Tryz.prog link.tWg Wg C k B (E.Dp k) (Xo C L (E.res L)) (KR Wg C k B L E cs) (UB E 0 k) [] (G ((base 52).at ⟨T,[]⟩ [.code zB]) cs) w:=by
 obtain⟨m,hm⟩:=spj (Wg:=Wg) (C:=C) (k:=k) (B:=B) (L:=L) (E:=E) hE (cs:=cs) k 0 ag;rw[aie];co_apply Exists.intro;obtain⟨f,rfl⟩:=hT;rw[aid]
 (co_apply aQ rfl;intro _ qI;replace hF:=SF.rely hF qI;clear qI;rw[aX];simp only[bu];refine⟨a_ qj _,?_⟩)
 (co_apply aQ rfl;intro _ qI;replace hF:=SF.rely hF qI;clear qI;rw[aX];simp only[bu];refine⟨a_ qj _,?_⟩)
 (co_apply aQ rfl;intro _ qI;replace hF:=SF.rely hF qI;clear qI;rw[dW,n13];simp only[bu,List.range,List.range.loop];refine⟨a_ qj _,?_⟩;simp only[o13,q13])
 (co_apply aQ rfl;intro _ qI;replace hF:=SF.rely hF qI;clear qI
  refine goes_oper_k rfl rfl aB (λKq uI=>?_)
  (skip)
  go_simp
  try(unfold stored;go_simp)
  refine uI _ _ ⟨?_,?_⟩
  ·(co_quiet qj)
  clear uI Kq
  try walk_nrm)
 (co_apply aQ rfl;intro _ qI;replace hF:=SF.rely hF qI;clear qI
  refine goes_oper_k rfl rfl aB (λKq uI=>?_)
  (skip)
  go_simp
  try(unfold stored;go_simp)
  refine uI _ _ ⟨?_,?_⟩
  ·(co_quiet qj)
  clear uI Kq
  try walk_nrm)
 (co_apply aQ rfl;intro _ qI;replace hF:=SF.rely hF qI;clear qI
  refine goes_oper_k rfl rfl aB (λKq uI=>?_)
  (skip)
  go_simp
  try(unfold stored;go_simp)
  refine uI _ _ ⟨?_,?_⟩
  ·(co_quiet qj)
  clear uI Kq
  try walk_nrm)
 (co_apply aQ rfl;intro _ qI;replace hF:=SF.rely hF qI;clear qI;rw[bg];simp only[bu];refine⟨a_ qj _,?_⟩)
 (co_apply aQ rfl;intro _ qI;replace hF:=SF.rely hF qI;clear qI;rw[lK];simp only[bu];refine⟨a_ qj _,?_⟩)
 (co_apply aQ rfl;intro _ qI;replace hF:=SF.rely hF qI;clear qI;rw[stepG_loop];simp only[bu];refine⟨a_ qj _,?_⟩)
 exact hm _ _ [] s0 ⟨_,_,_,_,_,_,_,_,_,_,_,_,_,_,_,_,_,_,_,_,_,_,_,_,_,_,_,_,_,_,_,_,_,_,_,_,_,_,_,_,_,_,_,_,_,_,_,_,_,_,_,_,_,_,_,_,_,_,_,_,_,_,rfl⟩ hF (λx=>⟨λh=>lh,λh=>absurd h.2 ag⟩)
end
end Go.Proofs.Y
namespace Go.Proofs.Y
open Go.RowKit Go.Deep Go.Lf Go.Conc Go.ConcN Go.Gh
open Go.ConcR (Payload WgAt wgBlock)
structure DO(w:ah)(n:Nat)(q:CL)(bd od:Nat->Nat)(yv:Nat->Nat->Nat):Prop where
 lt:∀i,i<n->bd i<w.heap.size
 here:∀i,i<n->0<q.L->q.db i=some ⟨bd i,od i,none⟩
 y:∀i m,i<n->m<q.L->w.cell? ⟨bd i,od i+m,none⟩=some (.int .u8 ((yv i m:Nat):Int))
 yl:∀i m,yv i m<256
noncomputable def q12:{x:Array Oper//x=anm (anl Z4)}:=⟨_,by simp only[Z4,Jt,anl,QW,anm,Tryz.f52,bf];rfl⟩
noncomputable def o12:Array Oper:=q12.1
theorem aoh:Z4=.seq (.region 12 o12 false) zB:=ak
theorem n12:o12.size=1:=ak
section
variable {K L:Nat}
def Jv(q:CL)(bd od:Nat->Nat)(yv:Nat->Nat->Nat)(L i:Nat):Um:=⟨q.db i,bd i,od i,q.dc i,(List.range L).map (yv i)⟩
def Du(K L:Nat)(q:CL)(σ bd od:Nat->Nat)(yv:Nat->Nat->Nat)(bp Dq bD bv h2 ba:Nat)(b2:Nat->Nat)(B:Nat->Nat->F)(h0:Nat->aZ):Env:=
 {ba:=ba,bv:=bv,bW:=h2,oW:=0,cW:=K,bd:=Dq,bD:=bD,oD:=0,cD:=K,bp:=bp,op:=0,cp:=K,br:=b2,oR:=λ_=>0,cR:=λ_=>K,ws:=λt=>(List.range K).map λj=>(B t j).val,px:=λt=>q.ix (σ t),cs:=(List.range K).map λt=>Jv q bd od yv L (σ t),h0:=h0}
theorem aaF{D:Nat->ah->aN->Prop}(hD0:∀n w,n<=w.heap.size->D n w #[]){cs:aT}{bp Dq bv ba:Nat}{T:aH}(W:ah)(hT:alv bp K Dq bv ba T):
  ∃T',(∀E:Env,E.bp=bp->E.op=0->E.cp=K->E.bd=Dq->E.bv=bv->E.ba=ba->TW E W.heap.size K T')/\∀Stop:aI->ah->Prop,(∀dd d',Stop (G ((base 52).at ⟨T',[]⟩ [.code zB]) cs) (((W.at dd).alloc (wgBlock link.tWg 0 0)).at d'))->sU Tryz.prog D Stop (G ((base 52).at ⟨T,[]⟩ [.code Z4]) cs) W:=by
 obtain⟨f,hT⟩:=hT;rw[aoh]
 have key:∀(Stop:aI->ah->Prop)(a:Act)(o:Oper)(u:ai),o12[0]?=some o->a.defers=[]->Region.wanted o (yielded o12 a.tmps)=true->(∀z:ah,z.heap.size=W.heap.size->(execOp a.eval o).run Tryz.prog z=.ok (.value u) (z.alloc (wgBlock link.tWg 0 0)))->(∀z,listed Tryz.prog 52 a o z=#[])->
   (∀dd d',Stop (G ((base 52).at (a.put o.dst u) [.code zB]) cs) (((W.at dd).alloc (wgBlock link.tWg 0 0)).at d'))->sU Tryz.prog D Stop (G ((base 52).at a [.code (.seq (.region 12 o12 false) zB)]) cs) W:=by
  intro Stop a o u ho ha hw hr hl uw;refine .next rfl λd1=>⟨_,_,_,aX,hD0 _ _ (ay _),.next rfl λd2=>⟨_,_,_,dW,hD0 _ _ (ay _),?_⟩⟩
  rw[n12];simp only[List.range,List.range.loop];refine .next rfl λd3=>⟨_,_,_,stepG_value (b:=base _) ho hw oh (hr _ rfl),?_,.next rfl λd4=>⟨_,_,_,bg,hD0 _ _ (ay _),.stop λd5=>uw d3 d5⟩⟩
  rw[show(base 52).fn=52 from rfl,hl];exact hD0 _ _ (by simp[World.at])
 refine⟨T.setIfInBounds 12 (.pointer (some ⟨W.heap.size,0,none⟩)),λE h1 h2 h3 h4 h5 h6=>?_,λStop uw=>?_⟩
 rotate_left
 .subst hT;refine key Stop _ _ (.pointer (some ⟨W.heap.size,0,none⟩)) (by simp only[o12,q12];rfl) rfl rfl (λz hz=>by rw[<-hz];go_simp;rfl) (λz=>listed_nil bV) ?_;exact uw
 .subst hT h1 h3 h4 h5 h6;refine⟨λi=>if i=12 then undef else f i,?_⟩;rw[h2];rfl
theorem UC.tp{q:CL}{σ:Nat->Nat}{bp Dq bD bv h2 ba C:Nat}{b2:Nat->Nat}{B:Nat->Nat->F}{w:ah}(h:UC K q σ bp Dq bD bv h2 ba C b2 B w)(τ:Nat->Question->Nat)(d:Nat):UC K q σ bp Dq bD bv h2 ba C b2 B {w with tape:=τ,drawn:=d}:=⟨h.p0,h.p1,h.vd,h.hD,h.vv,h.hW,h.hw,h.va,h.pay,h.new,h.gj,h.pl⟩
theorem UC.alloc{q:CL}{σ:Nat->Nat}{bp Dq bD bv h2 ba C:Nat}{b2:Nat->Nat}{B:Nat->Nat->F}{w:ah}(h:UC K q σ bp Dq bD bv h2 ba C b2 B w)(o:Obj):UC K q σ bp Dq bD bv h2 ba C b2 B (w.alloc o):=by obtain⟨n1,n2,n3,n4,n5,n6,n7,n8⟩:=h.new;exact⟨λt ht=>uO o (h.p0 t ht),λt ht=>uO o (h.p1 t ht),uO o h.vd,λt ht=>uO o (h.hD t ht),uO o h.vv,λt ht=>uO o (h.hW t ht),λt j ht hj=>uO o (h.hw t j ht hj),uO o h.va,(dI _ _ _ ag).trans h.pay,⟨n1,n2,n3,n4,n5,n6,n7,aJ⟩,h.gj,h.pl⟩
theorem alA{q:CL}{σ bd od:Nat->Nat}{yv:Nat->Nat->Nat}{bp Dq bD bv h2 ba:Nat}{b2:Nat->Nat}{B:Nat->Nat->F}{h0:Nat->aZ}(hn:0<K/\K<=128)(hL:L<=140737488355328)(hx:∀t,t<K->q.ix (σ t)<128)(hy:∀i m,yv i m<256):QV (Du K L q σ bd od yv bp Dq bD bv h2 ba b2 B h0) K L:=by
 refine⟨ag,ag,ag,by simp[Du],λt _=>⟨by simp[Du,Dc],λx hx=>?_⟩,λc hc=>?_,λt ht=>?_⟩
 .simp only[Du,gI]at hx;obtain⟨j,_,rfl⟩:=hx;exact(B t j).isLt
 .simp only[Du,gI]at hc;obtain⟨j,_,rfl⟩:=hc;refine⟨by simp[Jv,Dc],λy hy'=>?_⟩;simp only[Jv,gI]at hy';obtain⟨m,_,rfl⟩:=hy';exact hy _ _
 .have:=hx t ht;show q.ix (σ t)<128;omega
theorem aiq[Payload][qR](Bh:Payload.ety=24){X:Nat->Prop}{Y:Nat->aZ}{w2 v3 W:ah}{lw C:Nat}{q:CL}{σ bd od:Nat->Nat}{yv:Nat->Nat->Nat}{bp Dq bD bv h2 ba:Nat}{b2:Nat->Nat}{B:Nat->Nat->F}(hold:∀b,qR.old b->b<lw)(hX:∀b,X b->b<lw)(NV:lw<=bp/\lw<=Dq/\lw<=bD/\lw<=bv/\lw<=h2/\∀t,t<K->lw<=b2 t)(hs:yg X Y W v3)(hS:DO w2 K q bd od yv)(PK:∀i,i<K->¬qR.old (bd i))(hqL:q.L=L)(hb:tX w2.heap.size w2 v3)(vU:∀b,b<w2.heap.size->b<C)(hP:UC K q σ bp Dq bD bv h2 ba C b2 B v3){Wg:Nat}(hWg:W.heap.size=Wg+1)(hba:ba<Wg):
  SF Wg C K (Wg+1) L (Du K L q σ bd od yv bp Dq bD bv h2 ba b2 B (λb=>W.heap[b]?)) (Wg+1) 0 (gw W []):=by
 obtain⟨n1,n2,n3,n4,n5,n6,n7,n8⟩:=hP.new;obtain⟨g1,g2,g3,g4,g5,g6⟩:=NV;have hsz:=hs.size;have st:∀{b o:Nat}{u:ai},v3.cell? ⟨b,o,none⟩=some u->(gw W []).cell? ⟨b,o,none⟩=some u:=λ{b o u} h=>(show W.cell? ⟨b,o,none⟩=some u from OA hs h);have lo:∀{b:Nat},b<Wg->b≠C->lw<=b->Lo Wg C (Wg+1) b:=λ{b} h h' hl=>⟨ag,ag,h',λho=>by have:=hold b ho;omega⟩;have lr:∀t,t<K->Lo Wg C (Wg+1) (b2 t):=λt ht=>lo (by have:=n6 t ht;omega) (by have:=n6 t ht;omega) (g6 t ht)
 have hcs:∀{t:Nat}{c:Um},((List.range K).map λt=>Jv q bd od yv L (σ t))[t]?=some c->t<K/\c=Jv q bd od yv L (σ t):=λ{t c} e=>by exact ayj
 have ahx:(gw W []).heap.size=Wg+1:=hWg;refine⟨⟨?_,ag,ag,λb hb=>?_⟩,⟨madeCells #[.slice none 0 0] K,?_,jw _ _⟩,⟨lo (b:=ba) ag ag ag,lo (b:=bv) ag ag ag,lo (b:=h2) ag ag ag,lo (b:=Dq) ag ag ag,lo (b:=bD) ag ag ag,lo (b:=bp) ag ag ag,lr,st hP.va,st hP.vv,st hP.vd,λt ht=>?_,λt ht j x e=>?_,λj c e=>?_,λt ht=>?_,λt c e=>?_,λc hc=>?_,λb _ _ _=>rfl⟩,⟨ag,ag,ag⟩,λt c ht=>absurd ht ag⟩
 .unfold gw;rw[xE];exact ay _
 .unfold gw at hb;rw[vM]at hb;cases hb
 .exact ayo
 .simp only[Du,bJ];exact st (hP.hW t ht)
 .simp only[Du,bJ,dV]at e⊢;obtain⟨j',NZ,rfl⟩:=dU.1 e;obtain⟨h1,rfl⟩:=Gu NZ;exact st (hP.hw t _ ht h1)
 .obtain⟨h1,rfl⟩:=hcs e;simp only[Du,Jv,bJ];have:=st (hP.hD j h1);rw[CL.d,hqL]at this;exact this
 .simp only[Du,bJ];exact st (hP.p0 t ht)
 .obtain⟨h1,rfl⟩:=hcs e;simp only[Du,Jv,bJ];have:=st (hP.p1 t h1);rw[CL.d,hqL]at this;exact this
 .simp only[Du,gI,jM]at hc;obtain⟨t,ht,rfl⟩:=hc;have hσ:=hP.pl.lt t ht;have d1:=hS.lt (σ t) hσ;have d2:=hS.here (σ t) hσ;have d3:=hS.y (σ t);rw[hqL]at d2 d3;have:=vU _ d1;refine⟨⟨by show bd (σ t)<_;omega,by show bd (σ t)≠_;omega,by show bd (σ t)≠C;omega,PK _ hσ⟩,d2,λi y e=>?_⟩;simp only[Jv,dV]at e⊢;obtain⟨j',NZ,rfl⟩:=dU.1 e;obtain⟨h1,rfl⟩:=Gu NZ;exact st ((Below.cell (p:=⟨bd (σ t),_,none⟩) hb d1).trans (d3 _ hσ h1))
def yF(yv:Nat->Nat->Nat)(σ:Nat->Nat)(m j:Nat):F:=Fin.ofNat 256 (yv (σ j) m)
theorem air{yv:Nat->Nat->Nat}(h:∀i m,yv i m<256)(σ:Nat->Nat)(m j:Nat):(yF yv σ m j).val=yv (σ j) m:=dB (h _ _)
def xF(K:Nat)(B:Nat->Nat->F)(yv:Nat->Nat->Nat)(σ:Nat->Nat)(t m:Nat):F:=F.dot K (B t) (yF yv σ m)
section
variable {q:CL}{σ bd od:Nat->Nat}{yv:Nat->Nat->Nat}{bp Dq bD bv h2 ba C:Nat}{b2:Nat->Nat}{B:Nat->Nat->F}{h0:Nat->aZ}
theorem alB(hy:∀i m,yv i m<256)(t m:Nat)(hm:m<L):((Du K L q σ bd od yv bp Dq bD bv h2 ba b2 B h0).res L t).getD m 0=(xF K B yv σ t m).val:=by
 have e:E_ ((Du K L q σ bd od yv bp Dq bD bv h2 ba b2 B h0).ws t) (Du K L q σ bd od yv bp Dq bD bv h2 ba b2 B h0).cs=(List.range K).map λj=>((B t j).val,(List.range L).map (yv (σ j))):=by simp only[E_,Du,kV];exact List.zip_map'
 unfold Env.res;rw[e,UE (λj=>(B t j).val) (λj=>(List.range L).map (yv (σ j))) L m hm (λj=>aA) K]
 have e2:(λ(j r:Nat)=>r^^^mul (((List.range L).map (yv (σ j))).getD m 0) (B t j).val)=λj r=>r^^^mul (yF yv σ m j).val (B t j).val:=by
  funext j r
  rw[air hy];simp[hm]
 rw[e2,aeO K (B t) (yF yv σ m) K];rfl
theorem alC(t:Nat):((Du K L q σ bd od yv bp Dq bD bv h2 ba b2 B h0).res L t).length=L:=by unfold Env.res;rw[Ce];simp
theorem ais(hK:K<=128)(hx:∀i,i<K->q.ix i<128)(uD:FT K q.ix σ)(hg:∃A,F.Gj K (mF K λs=>q.ix (σ s)) K A B){t:Nat}(ht:t<K)(e:q.ix (σ t)=t)(m:Nat):xF K B yv σ t m=yF yv σ m t:=by obtain⟨A,hg⟩:=hg;have h1:=F.ait hg (yF yv σ m) t ht;rw[F.yw ht ((aij hK uD hx).unit t ht (by rw[show(Fin.ofNat 256 (q.ix (σ t))).val=q.ix (σ t)from dB (by have:=hx _ (uD.lt t ht);omega),e];exact ht)).2]at h1;exact h1
theorem alD(uD:FT K q.ix σ)(hg:∃A,F.Gj K (mF K λs=>q.ix (σ s)) K A B){i m:Nat}(hi:i<K):F.dot K (mF K q.ix i) (λj=>xF K B yv σ j m)=Fin.ofNat 256 (yv i m):=by obtain⟨A,hg⟩:=hg;obtain⟨t,ht,rfl⟩:=uD.all i hi;exact F.ait hg (yF yv σ m) t ht
theorem aoi[Payload][qR]{X:Nat->Prop}{Y:Nat->aZ}{w2 v3 W W' v':ah}{s0:Nat}{l ids:aC}(hs:yg X Y W v3){Wg:Nat}(hWg:W.heap.size=Wg+1)(arQ:ba<Wg)(hn:0<K/\K<=128)(hx:∀i,i<K->q.ix i<128)(hS:DO w2 K q bd od yv)(vU:∀b,b<w2.heap.size->b<C)(hP:UC K q σ bp Dq bD bv h2 ba C b2 B v3)
  (hk:∀b c t fr,¬(X b\/b=Wg)->W'.heap[b]?=some (.cells c t fr)->v'.heap[b]?=some (.cells c t fr)) (hX:∀b,X b->b<w2.heap.size)
  (hF:SF Wg C K (Wg+1) L (Du K L q σ bd od yv bp Dq bD bv h2 ba b2 B (λb=>W.heap[b]?)) s0 K (gw W' l)) (CX:∀x,x∈ids↔(Du K L q σ bd od yv bp Dq bD bv h2 ba b2 B (λb=>W.heap[b]?)).Dp K x)
  (F9:∀x∈ids,∃v l',Has C x v W'/\Xo C L ((Du K L q σ bd od yv bp Dq bD bv h2 ba b2 B (λb=>W.heap[b]?)).res L) x v (gw W' l')/\∀b∈l',Wg+1<=b):
  (∃dN:Nat->Nat,∀t,t<K->v'.cell? ⟨C,t,none⟩=some (.slice (some ⟨dN t,0,none⟩) L L)/\∀m,m<L->v'.cell? ⟨dN t,m,none⟩=some (.int .u8 (((xF K B yv σ t m).val:Nat):Int)))/\v'.cell? ⟨ba,0,none⟩=some (.slice (some ⟨C,0,none⟩) K K):=by
 obtain⟨n1,n2,n3,n4,n5,n6,n7,n8⟩:=hP.new;have hsz:=hs.size;have up:∀{b o:Nat}{u:ai},¬X b->b≠Wg->W'.cell? ⟨b,o,none⟩=some u->v'.cell? ⟨b,o,none⟩=some u:=λhx hb h=>aeP (X:=λb=>X b\/b=Wg) hk (λe=>e.elim hx hb) h
 have lw:∀{b o:Nat}{u:ai},b<Wg->b≠C->v3.cell? ⟨b,o,none⟩=some u->v'.cell? ⟨b,o,none⟩=some u:=λ{b o u} h h' hc=>by exact ayZ
 have hXC:∀b,X b->b<C:=λb hb=>vU b (hX b hb)
 have akP:∀t,t<K->∃N',v'.cell? ⟨C,t,none⟩=some (.slice (some ⟨N',0,none⟩) L L)/\∀m,m<L->v'.cell? ⟨N',m,none⟩=some (.int .u8 (((xF K B yv σ t m).val:Nat):Int)):=by
  intro t ht
  have fin:∀(N':Nat)(xs:aC),Wg+1<=N'->W'.heap[N']?=some (.cells (tK xs) 5)->xs.length=L->(∀m,m<L->xs.getD m 0=(xF K B yv σ t m).val)->∀m,m<L->v'.cell? ⟨N',m,none⟩=some (.int .u8 (((xF K B yv σ t m).val:Nat):Int)):=by intro N' xs h0 h1 h2 h3 m hm;refine up (λhx=>by have:=hXC N' hx;omega) ag ?_;simp only[World.cell?,h1];rw[yz,bQ ag,fM,<-h3 m hm,bG,bQ ag];rfl
  have upC:∀{o:Nat}{u:ai},W'.cell? ⟨C,o,none⟩=some u->v'.cell? ⟨C,o,none⟩=some u:=λh=>up (λhx=>by have:=hXC C hx;omega) ag h
  by_cases e:q.ix (σ t)=t
  .have hc:(Du K L q σ bd od yv bp Dq bD bv h2 ba b2 B (λb=>W.heap[b]?)).cs[t]?=some (Jv q bd od yv L (σ t)):=by
    show((List.range K).map _)[t]?=_;rw[dV,o8 ht];rfl
   obtain⟨N',_,_,hmn,h1,h2⟩:=hF.dn t _ ht (λhm=>hm.2 e) hc;refine⟨N',upC h1,fin N' _ hmn.2 h2 (by simp[Jv]) λm hm=>?_⟩;rw[ais hn.2 hx hP.pl hP.gj ht e,air hS.yl];simp[Jv,hm]
  .obtain⟨v,l',h1,⟨N',rfl,hmn,_,h2⟩,TM⟩:=F9 t ((CX t).2 ⟨ht,e⟩);exact⟨N',upC h1,fin N' _ (TM N' ((yU W' l' N').1 hmn)) h2 (alC t) λm hm=>alB hS.yl t m hm⟩
 refine⟨⟨λt=>if h:t<K then(akP t h).choose else 0,λt ht=>?_⟩,lw ag ag hP.va⟩;simp only[kG ht];exact(akP t ht).choose_spec
end
end
theorem aeQ(E:Env):∀d j,UB E j d<=d
 |0,_=>ay _
 |d+1,j=>by unfold UB;have:=aeQ E d (j+1);split<;>omega
section
variable {X:Nat->Prop}{Y:Nat->aZ}{D:Nat->ah->aN->Prop}{Stop:aI->ah->Prop}{v:ah}{K C Wg j:Nat}{E:Env}{cs:aT}{f:aS}
theorem aoj(hD:zN X D){T:aH}{ops:Array Oper}(hT:TS E Wg K j T)(hba:v.cell? ⟨E.ba,0,none⟩=some (.slice (some ⟨C,0,none⟩) K K))
  (VR:∀τ d,∀w,rG X Y w {v with tape:=τ,drawn:=d}->sU Tryz.prog D Stop (G (f.finish (.slice (some ⟨C,0,none⟩) K K)) cs) w):
  uN Tryz.prog X Y D Stop 52 (f::cs) (.inRegion ops []::[.code aeM]) ⟨T,[]⟩ v:=by
 obtain⟨v0,v1,v2,v3,v4,v5,v6,v8,v9,VP,Xf,S9,S_,Tc,PS,PU,v20,v21,v22,TK,v24,TL,v26,ZZ,v28,v29,v30,v31,v32,v33,v34,v35,v36,v37,v38,v39,v40,v41,v42,v43,v44,v45,v46,v50,v51,v52,v53,v54,v55,v56,v57,v58,v59,v60,v61,v62,v63,v64,v65,v66,v67,v68,rfl⟩:=hT;refine aaG hD ?_;unfold aeM;simp only[o22,q22];refine rV IP hD ak rfl aaB λR hR τ d'=>?_
 have tV:({v with tape:=τ,drawn:=d'}:ah).cell? ⟨E.ba,0,none⟩=some (.slice (some ⟨C,0,none⟩) K K):=hba;have YB:=VR τ d';generalize{v with tape:=τ,drawn:=d'}=v1 at tV YB⊢;go_wp2;refine aaH (y:=.slice (some ⟨C,0,none⟩) K K) hD rfl Tryz.func52 (λτ d=>?_) YB;exact results_tmp (fn:=Tryz.f52) (t:=4) rfl _ _ _
end
theorem YX{Fin:Machine->Trace->Prop}(yP:∀m m' ops t,stepT Tryz.prog m=(.next m',ops)->Fin m' (t++ops)->Fin m t){X:Nat->Prop}{Y:Nat->aZ}{e:Nat}{gs:dD}{W v0:ah}{sl:Option (Nat×Nat)}{t:Trace}{qq:Nat->Nat}{fr:aS}{cs:aT}{K M bc oc cap:Nat}{q:CL}{bd od:Nat->Nat}{yv:Nat->Nat->Nat}
  (h0:gs[0]?=some (G ((base 52).at ⟨#[.int .i64 (K:Int),.slice (some ⟨bc,oc,none⟩) M cap]++Array.replicate 67 undef,[]⟩ [.code Jt]) (fr::cs))) (hB:LU Tryz.prog (wX X) e gs W t qq) (hs:rG X Y W v0)
  (hK:0<K/\K<=128) (hKM:K<=M) (uF:M<=cap) (hx:∀i,i<K->q.ix i<128) (hC:CO v0 bc oc K q) (apB:∀i j,i<K->j<K->i≠j->q.ix i≠q.ix j) (hS:DO v0 K q bd od yv) (PK:∀i,i<K->¬X (bd i)) (hL:q.L<=65536) (he:e+K<2147483648)
  (qZ:∀(e':Nat)(σ:Nat->Nat)(B:Nat->Nat->F)(C Wg:Nat)(dN:Nat->Nat)(QG:dD)(W':ah)(sl':Option (Nat×Nat))(t':Trace)(q':Nat->Nat)(Y':Nat->aZ)(v':ah),e'<=e+K->FT K q.ix σ->(∃A,F.Gj K (mF K λs=>q.ix (σ s)) K A B)->QG[0]?=some (G (fr.finish (.slice (some ⟨C,0,none⟩) K K)) cs)->
   LU Tryz.prog (wX λb=>X b\/b=Wg) e' QG W' t' q'->rG (λb=>X b\/b=Wg) Y' W' v'->W.heap.size<=Wg->Sub v0 v'->KpX X W W'->
   (∀t,t<K->v'.cell? ⟨C,t,none⟩=some (.slice (some ⟨dN t,0,none⟩) q.L q.L)/\∀m,m<q.L->v'.cell? ⟨dN t,m,none⟩=some (.int .u8 (((xF K B yv σ t m).val:Nat):Int)))->Fin (crowd QG W' sl') t'):
  Fin (crowd gs W sl) t:=by
 have xk:=hs;obtain⟨τ0,dd0,Ti⟩:=xk;have RQ:∀b,X b->b<v0.heap.size:=λb hb=>Ti.bound b (.inl hb)
 refine late (Fin:=Fin) (Shun:=wX X) (e:=e) (Stop:=λgr W=>∃(σ:Nat->Nat)(bp Dq bD bv h2 ba C:Nat)(b2:Nat->Nat)(B:Nat->Nat->F)(T:aH)(v3:ah),gr=G ((base 52).at ⟨T,[]⟩ [.code Z4]) (fr::cs)/\rG X Y W v3/\alv bp K Dq bv ba T/\UC K q σ bp Dq bD bv h2 ba C b2 B v3/\(∀b,b<v0.heap.size->b<C)/\(v0.heap.size<=bp/\v0.heap.size<=Dq/\v0.heap.size<=bD/\v0.heap.size<=bv/\v0.heap.size<=h2/\∀t,t<K->v0.heap.size<=b2 t)/\tX v0.heap.size v0 v3) yP (λ_ _ _ h=>h) (λgs1 a1 W1 sl1 t1 q1 h01 uw yQ=>?_)
  (aaC (BV X) (cs:=fr::cs) (Y:=Y) hK hKM uF hx hC apB (λσ bp Dq bD bv h2 ba C b2 B T w1 a1 a2 a3 a4 a5 w hw=>.stop λdd=>⟨σ,bp,Dq,bD,bv,h2,ba,C,b2,B,T,w1,rfl,hw.at dd,a1,a2,a3,a4,a5⟩) W hs) W.drawn gs sl t qq h0 hB
 obtain⟨σ,bp,Dq,bD,bv,h2,ba,Cc,b2,B,T,v3,rfl,hW1,hTP,aaI,vU,NV,Qa⟩:=uw W1.drawn;replace hW1:rG X Y W1 v3:=hW1;letI:qR:=⟨X⟩;obtain⟨n1,n2,n3,n4,n5,n6,n7,n8⟩:=aaI.new;have ahx:W1.heap.size=v3.heap.size:=by obtain⟨_,_,h⟩:=hW1;exact h.size
 have aok:LU Tryz.prog (KZ W1.heap.size) e gs1 W1 t1 q1:=yQ.more (λl h=>.inr h) (λl h=>h.elim (λ⟨a,ea,ya⟩=>.inr ⟨a,ea,fA ya.symm⟩) .inl);obtain⟨T',hTW,hG⟩:=aaF (D:=DM (KZ W1.heap.size)) (λn w h=>⟨h,aA⟩) (cs:=fr::cs) W1 hTP;refine late (Fin:=Fin) (Shun:=KZ W1.heap.size) (e:=e) yP (λ_ _ _ h=>h) (λgs2 a2 W2 sl2 t2 q2 h02 apC zJ=>?_) (hG (λgr w=>gr=G ((base 52).at ⟨T',[]⟩ [.code zB]) (fr::cs)/\∃dd d',w=((W1.at dd).alloc (wgBlock link.tWg 0 0)).at d') (λdd d'=>⟨rfl,dd,d',rfl⟩)) W1.drawn gs1 sl1 t1 q1 h01 aok;obtain⟨rfl,dd,d',TN⟩:=apC W2.drawn;replace TN:W2=((W1.at dd).alloc (wgBlock link.tWg 0 0)).at d':=TN;generalize hWg:W1.heap.size=Wg at*
 have Jc:rG X Y W2 (v3.alloc (wgBlock link.tWg 0 0)):=by exact ax4
 have vV:W2.heap.size=Wg+1:=by rw[TN];simp[World.at,hWg]
 have Oe:W2.heap[Wg]?=some (wgBlock link.tWg 0 0):=by rw[TN,<-hWg];exact gU (W1.at dd) _
 have hl2:∀b,b<Wg->W2.heap[b]?=W1.heap[b]?:=λb hb=>by rw[TN];exact dI (W1.at dd) _ b awP
 obtain⟨τ2,dd2,B_⟩:=Jc;have hPF:=(aaI.alloc (wgBlock link.tWg 0 0)).tp τ2 dd2;have uQ:tX v0.heap.size v0 {v3.alloc (wgBlock link.tWg 0 0)with tape:=τ2,drawn:=dd2}:=(Qa.trans (tX.of ((aO v3.heap.size v3).alloc (ay _) _)) Qa.uo).tp τ2 dd2;generalize({v3.alloc (wgBlock link.tWg 0 0)with tape:=τ2,drawn:=dd2}:ah)=v4 at B_ hPF uQ;letI:Payload:=⟨24⟩;letI:yV:=⟨W2.output,W2.os⟩;have aol:QV (Du K q.L q σ bd od yv bp Dq bD bv h2 ba b2 B (λb=>W2.heap[b]?)) K q.L:=alA hK ag (λt ht=>hx _ (aaI.pl.lt t ht)) hS.yl;have hSF:=aiq (lw:=v0.heap.size) (L:=q.L) rfl RQ RQ NV B_ hS PK rfl uQ vU hPF vV ag;have hSp:=aip (cs:=fr::cs) aol (hTW _ rfl rfl rfl rfl rfl rfl) hSF;have atB:=aeQ (Du K q.L q σ bd od yv bp Dq bD bv h2 ba b2 B (λb=>W2.heap[b]?)) K 0;refine aeR (Fin:=Fin) (ty:=link.tWg) yP h02 zJ (λb hb=>?_) (dZ _) ag ag ag Oe hSF.pay hSp ⟨λ_ _ _ _ r h=>Xo.rely h r,λ_ _ _ _ r h=>KR.rely h r⟩ ag rfl rfl (λids gs3 a3 W3 lb sl3 t3 q3 h03 ho hos hwk hK3 hp F9 F8=>?_)
 .have:=RQ b hb;have:=vU b this;omega
 obtain⟨T1,s0,j,ops,rfl,hTS,YY,CX⟩:=hK3;have std:∀b,b<Wg->b≠Cc->W3.heap[b]?=W2.heap[b]?:=λb hb hc=>YY.low.std b ag ag hc
 have hXC:∀b,X b->b<Wg/\b≠Cc:=λb hb=>by have h1:=RQ b hb;have:=vU b h1;omega
 obtain⟨Y',v',zM,hk'⟩:=YZ W3 (λb=>X b\/b=Wg) (λb hb=>by
  rcases hb with hb|rfl
  .exact axL
  .obtain⟨st,sm,hw⟩:=hwk;exact⟨_,_,hw⟩)
 obtain⟨⟨dN,hd⟩,hba⟩:=aoi B_ vV ag hK hx hS vU hPF hk' RQ YY CX F9
 have Kt:∀{b:Nat}{c:aH}{ty:aG}{fz:Nat×Nat},v0.heap[b]?=some (.cells c ty fz)->v'.heap[b]?=some (.cells c ty fz):=λ{b c ty fz} h=>by
  have h1:b<v0.heap.size:=(eG.1 h).1;have h2:=vU b h1;have h3:v4.heap[b]?=some (.cells c ty fz):=(uQ.blk h1).trans h;by_cases hx:X b
  .exact ayB
  .exact ayA
 have e1:v'.heap.size=W3.heap.size:=zM.size.symm;have e2:Wg+1<=W3.heap.size:=bF YY.sb.2.1 YY.sb.2.2;have arR:v0.heap.size<=v3.heap.size:=Qa.uo;have hD':zN (λb=>X b\/b=Wg) (DM (KZ Wg)):=acW λl h=>h.elim (λ⟨a,ea,ya⟩=>⟨a,ea,.inr ya⟩) (λ⟨a,ea,ya⟩=>⟨a,ea,.inl ya⟩)
 refine late (Fin:=Fin) (Shun:=KZ Wg) (e:=e+UB (Du K q.L q σ bd od yv bp Dq bD bv h2 ba b2 B (λb=>W2.heap[b]?)) 0 K) (Stop:=λgr w=>gr=G (fr.finish (.slice (some ⟨Cc,0,none⟩) K K)) cs/\rG (λb=>X b\/b=Wg) Y' w v') yP (λ_ _ _ h=>h) (λYv a4 W4 sl4 t4 q4 h04 aom xX=>?_) (aoj (X:=λb=>X b\/b=Wg) (Y:=Y') hD' hTS hba (λτ dd w1 E8=>.stop λd6=>⟨rfl,E8.at d6⟩) W3 zM.t) W3.drawn gs3 sl3 t3 q3 h03 F8;obtain⟨rfl,L6⟩:=aom W4.drawn;replace L6:rG (λb=>X b\/b=Wg) Y' W4 v':=L6;refine qZ _ σ B Cc Wg dN Yv W4 sl4 t4 q4 Y' v' ag aaI.pl aaI.gj h04 (xX.more (λl h=>h.elim (λ⟨a,ea,ya⟩=>⟨a,ea,.inr ya⟩) (λ⟨a,ea,ya⟩=>⟨a,ea,.inl ya⟩)) (λl ⟨a,ea,ya⟩=>.inl (ya.elim (λy=>.inr ⟨a,ea,y⟩) (λy=>.inl ⟨a,ea,y⟩)))) L6 ?_ ⟨ag,λb c ty fz hx=>Kt hx⟩ ?_ hd
 .have:W.heap.size=v0.heap.size:=Ti.size;omega
 .have xY:W.heap.size=v0.heap.size:=Ti.size;obtain⟨τ5,d5,Y0⟩:=L6;obtain⟨τ1,d1,aet⟩:=hW1;have z5:W4.heap.size=v'.heap.size:=Y0.size;refine⟨?_,?_,ag,λb hb hx=>?_⟩
  .exact ayP
  .exact ayX
  .exact ayh
theorem Y1{Fin:Machine->Trace->Prop}(yP:∀m m' ops t,stepT Tryz.prog m=(.next m',ops)->Fin m' (t++ops)->Fin m t){X:Nat->Prop}{Y:Nat->aZ}{e:Nat}{gs:dD}{W v0:ah}{sl:Option (Nat×Nat)}{t:Trace}{qq:Nat->Nat}{fr:aS}{cs:aT}{K N:Nat}{l:aj}{vd:ai}
  (h0:gs[0]?=some (G ((base 53).at ⟨#[.int .i64 ((K:Nat):Int),.int .i64 ((N:Nat):Int),vd]++Array.replicate 23 undef,[]⟩ [.code Bf]) (fr::cs))) (hB:LU Tryz.prog (wX X) e gs W t qq) (hs:rG X Y W v0)
  (V4:1<=K) (hkn:K<=N) (hn:N<=128) (Oc:l.length<=65536) (hv:qP v0 vd (rP l)) (he:e+N<2147483648)
  (qZ:∀(C Wg:Nat)(dN:Nat->Nat)(QG:dD)(W':ah)(sl':Option (Nat×Nat))(t':Trace)(q':Nat->Nat)(Y':Nat->aZ)(v':ah),QG[0]?=some (G (fr.finish (.slice (some ⟨C,0,none⟩) N N)) cs)->
   LU Tryz.prog (wX λb=>X b\/b=Wg) (e+N) QG W' t' q'->rG (λb=>X b\/b=Wg) Y' W' v'->W.heap.size<=Wg->v0.heap.size<=C->Sub v0 v'->KpX X W W'->
   (∀t,t<N->v'.cell? ⟨C,t,none⟩=some (.slice (some ⟨dN t,0,none⟩) (rO K l.length) (rO K l.length))/\v'.heap[dN t]?=some (.cells (rP (He K (rO K l.length) l t)).toArray 5))->Fin (crowd QG W' sl') t'):
  Fin (crowd gs W sl) t:=by
 have xk:=hs;obtain⟨τ0,dd0,Ti⟩:=xk;have RQ:∀b,X b->b<v0.heap.size:=λb hb=>Ti.bound b (.inl hb)
 refine late (Fin:=Fin) (Shun:=wX X) (e:=e) (Stop:=λgr W=>∃(bk bd Pp Ff ba C:Nat)(T:aH)(v3:ah),gr=G ((base 53).at ⟨T,[]⟩ [.code gc3]) (fr::cs)/\rG X Y W v3/\TPc bk bd ba T/\PFc K N (rO K l.length) l bk bd Pp Ff ba C v3/\(∀b,b<v0.heap.size->b<C)/\(v0.heap.size<=bk/\v0.heap.size<=bd/\v0.heap.size<=Pp/\v0.heap.size<=Ff)/\tX v0.heap.size v0 v3) yP (λ_ _ _ h=>h) (λgs1 a1 W1 sl1 t1 q1 h01 uw yQ=>?_)
  (aaJ (BV X) (cs:=fr::cs) (Y:=Y) V4 hkn hn Oc hv (λbk bd Pp Ff ba C T w1 a1 a2 a3 a4 a5 w hw=>.stop λdd=>⟨bk,bd,Pp,Ff,ba,C,T,w1,rfl,hw.at dd,a1,a2,a3,a4,a5⟩) W hs) W.drawn gs sl t qq h0 hB
 obtain⟨bk,bd,Pp,Ff,ba,Cc,T,v3,rfl,hW1,hTP,aaI,vU,NV,Qa⟩:=uw W1.drawn;replace hW1:rG X Y W1 v3:=hW1;letI:qR:=⟨X⟩;obtain⟨n1,n2,n3,n4,n5,n6⟩:=aaI.new;have ahx:W1.heap.size=v3.heap.size:=by obtain⟨_,_,h⟩:=hW1;exact h.size
 have aok:LU Tryz.prog (KZ W1.heap.size) e gs1 W1 t1 q1:=yQ.more (λl h=>.inr h) (λl h=>h.elim (λ⟨a,ea,ya⟩=>.inr ⟨a,ea,fA ya.symm⟩) .inl);obtain⟨T',hTW,hG⟩:=acX (D:=DM (KZ W1.heap.size)) (λn w h=>⟨h,aA⟩) (cs:=fr::cs) W1 hTP;refine late (Fin:=Fin) (Shun:=KZ W1.heap.size) (e:=e) yP (λ_ _ _ h=>h) (λgs2 a2 W2 sl2 t2 q2 h02 apC zJ=>?_) (hG (λgr w=>gr=G ((base 53).at ⟨T',[]⟩ [.code Ap]) (fr::cs)/\∃dd d',w=((W1.at dd).alloc (wgBlock link.tWg 0 0)).at d') (λdd d'=>⟨rfl,dd,d',rfl⟩)) W1.drawn gs1 sl1 t1 q1 h01 aok;obtain⟨rfl,dd,d',TN⟩:=apC W2.drawn;replace TN:W2=((W1.at dd).alloc (wgBlock link.tWg 0 0)).at d':=TN;generalize hWg:W1.heap.size=Wg at*
 have Jc:rG X Y W2 (v3.alloc (wgBlock link.tWg 0 0)):=by exact ax4
 have vV:W2.heap.size=Wg+1:=by rw[TN];simp[World.at,hWg]
 have Oe:W2.heap[Wg]?=some (wgBlock link.tWg 0 0):=by rw[TN,<-hWg];exact gU (W1.at dd) _
 have hl2:∀b,b<Wg->W2.heap[b]?=W1.heap[b]?:=λb hb=>by rw[TN];exact dI (W1.at dd) _ b awP
 obtain⟨τ2,dd2,B_⟩:=Jc;have hPF:=(aaI.alloc (wgBlock link.tWg 0 0)).tp τ2 dd2;have uQ:tX v0.heap.size v0 {v3.alloc (wgBlock link.tWg 0 0)with tape:=τ2,drawn:=dd2}:=(Qa.trans (tX.of ((aO v3.heap.size v3).alloc (ay _) _)) Qa.uo).tp τ2 dd2;generalize({v3.alloc (wgBlock link.tWg 0 0)with tape:=τ2,drawn:=dd2}:ah)=v4 at B_ hPF uQ;letI:Payload:=⟨24⟩;letI:yV:=⟨W2.output,W2.os⟩;have hLb:=G_ (k:=K) ag l.length;have aol:UF (Ju K (rO K l.length) l bk bd Pp Ff ba (λb=>W2.heap[b]?)) K N (rO K l.length):=alE ag ag ag;have hSF:=af4 (lw:=v0.heap.size) rfl RQ RQ NV B_ hPF vV ag;have hSp:=af5 (cs:=fr::cs) aol (hTW _ rfl rfl rfl) hSF;refine aeR (Fin:=Fin) (ty:=link.tWg) yP h02 zJ (λb hb=>?_) (dZ _) ag ag ag Oe hSF.pay hSp ⟨λ_ _ _ _ r h=>Xo.rely h r,λ_ _ _ _ r h=>KC.rely h r⟩ he rfl rfl (λids gs3 a3 W3 lb sl3 t3 q3 h03 ho hos hwk hK3 hp F9 F8=>?_)
 .have:=RQ b hb;have:=vU b this;omega
 obtain⟨T1,s0,j,ops,rfl,hTS,YY,CX⟩:=hK3;have std:∀b,b<Wg->b≠Cc->W3.heap[b]?=W2.heap[b]?:=λb hb hc=>YY.low.std b ag ag hc
 have hXC:∀b,X b->b<Wg/\b≠Cc:=λb hb=>by have h1:=RQ b hb;have:=vU b h1;omega
 obtain⟨Y',v',zM,hk'⟩:=YZ W3 (λb=>X b\/b=Wg) (λb hb=>by
  rcases hb with hb|rfl
  .exact axL
  .obtain⟨st,sm,hw⟩:=hwk;exact⟨_,_,hw⟩)
 obtain⟨⟨dN,hd⟩,_,hba⟩:=alF B_ vV ag uQ vU hPF hk' RQ YY CX F9
 have Kt:∀{b:Nat}{c:aH}{ty:aG}{fz:Nat×Nat},v0.heap[b]?=some (.cells c ty fz)->v'.heap[b]?=some (.cells c ty fz):=λ{b c ty fz} h=>by
  have h1:b<v0.heap.size:=(eG.1 h).1;have h2:=vU b h1;have h3:v4.heap[b]?=some (.cells c ty fz):=(uQ.blk h1).trans h;by_cases hx:X b
  .exact ayB
  .exact ayA
 have e1:v'.heap.size=W3.heap.size:=zM.size.symm;have e2:Wg+1<=W3.heap.size:=bF YY.sb.2.1 YY.sb.2.2;have arR:v0.heap.size<=v3.heap.size:=Qa.uo;have hD':zN (λb=>X b\/b=Wg) (DM (KZ Wg)):=acW λl h=>h.elim (λ⟨a,ea,ya⟩=>⟨a,ea,.inr ya⟩) (λ⟨a,ea,ya⟩=>⟨a,ea,.inl ya⟩)
 refine late (Fin:=Fin) (Shun:=KZ Wg) (e:=e+N) (Stop:=λgr w=>gr=G (fr.finish (.slice (some ⟨Cc,0,none⟩) N N)) cs/\rG (λb=>X b\/b=Wg) Y' w v') yP (λ_ _ _ h=>h) (λYv a4 W4 sl4 t4 q4 h04 aom xX=>?_) (aqf (X:=λb=>X b\/b=Wg) (Y:=Y') hD' hTS hba (λτ dd w1 E8=>.stop λd6=>⟨rfl,E8.at d6⟩) W3 zM.t) W3.drawn gs3 sl3 t3 q3 h03 F8;obtain⟨rfl,L6⟩:=aom W4.drawn;replace L6:rG (λb=>X b\/b=Wg) Y' W4 v':=L6;refine qZ Cc Wg dN Yv W4 sl4 t4 q4 Y' v' h04 (xX.more (λl h=>h.elim (λ⟨a,ea,ya⟩=>⟨a,ea,.inr ya⟩) (λ⟨a,ea,ya⟩=>⟨a,ea,.inl ya⟩)) (λl ⟨a,ea,ya⟩=>.inl (ya.elim (λy=>.inr ⟨a,ea,y⟩) (λy=>.inl ⟨a,ea,y⟩)))) L6 ?_ ?_ ⟨ag,λb c ty fz hx=>Kt hx⟩ ?_ (λt ht=>⟨(hd t ht).1,by rw[<-afZ];exact(hd t ht).2⟩)
 .have:W.heap.size=v0.heap.size:=Ti.size;omega
 .rcases gy v0.heap.size with h|h
  .omega
  .have:=vU (v0.heap.size-1) ag;omega
 .have xY:W.heap.size=v0.heap.size:=Ti.size;obtain⟨τ5,d5,Y0⟩:=L6;obtain⟨τ1,d1,aet⟩:=hW1;have z5:W4.heap.size=v'.heap.size:=Y0.size;refine⟨?_,?_,ag,λb hb hx=>?_⟩
  .exact ayP
  .exact ayX
  .exact ayh
