import Derived.Test.YtlghjjennhpjeaaGreatDoorDxN
set_option maxHeartbeats 16000000
set_option maxRecDepth 100000
namespace Go.Proofs.Y
open Go.Proofs.Tryz
open Go.RowKit Go.Deep
theorem am0{l m:aj}(h:l.length=m.length)(h2:∀t,t<l.length->sV l t=sV m t):l=m:=by apply pF h;intro i h1 h3;have:=h2 i h1;simp only[sV,bG,bQ h1,bQ h3,bf]at this;exact UInt8.toNat.inj this
theorem aa1(va vb:ai)(l m:aj)(w:ah)(ha:qP w va (rP l))(hb:qP w vb (rP m))(hl:l.length<=1048576):
  Calls prog 17 #[va,vb] w λr w'=>r=.returned (.bool (decide (l=m)))/\∃q,w'=w.drewN q:=by
 obtain⟨pa,ca,rfl⟩:=ha.len;obtain⟨pb,cb,rfl⟩:=hb.len;rw[ru]at ha hb⊢;rw[ru]at⊢;go_enter func17,ntmps17;rcases h4:((l.length:Int) != (m.length:Int))with _|_
 rotate_left
 .go_wp2;go_ret;exact⟨by rw[dY (λe=>by rw[e]at h4;simp at h4)];rfl,0,rfl⟩
 have hlen:l.length=m.length:=by
  have:((l.length:Int)==(m.length:Int))=true:=by simpa[bne]using h4
  have:=eq_of_beq this;omega
 have HL:Hid (l.length=m.length):=hlen;rw[<-hlen]at hb h4⊢;clear hlen h4;generalize hL:l.length=L at*;have HE:Hid (l.length=L):=hL;clear hL;go_wp2
 go_loopw [5] (λvi wr=>∃j:Nat,j<=L/\vi=.int .i64 (j:Int)/\(∃q,wr=w.drewN q)/\∀t,t<j->sV l t=sV m t) (λvi _=>L-(intOf vi).toNat)
 case atStart=>exact⟨0,ag,rfl,⟨0,rfl⟩,λt ht=>absurd ht ag⟩
 case round=>
  obtain⟨j,hj,rfl,hw,I_⟩:=hrel;have up:∀{p:Addr}{u:ai},w.cell? p=some u->wr.cell? p=some u:=λ{p u} h=>by obtain⟨m,rfl⟩:=hw;exact h
  by_cases qB:j<L
  .have xZ:(j:Int)<(L:Int):=ag;obtain⟨g1,o1,rfl,c1⟩:=ha.get (wF (l:=l) (j:=j) (by rw[HE.out];exact qB));obtain⟨g2,o2,rfl,c2⟩:=hb.get (wF (l:=m) (j:=j) avG);replace c1:=up c1;replace c2:=up c2;by_cases e1:sV l j=sV m j
   .rw[<-e1]at c2
    have nx:∀t,t<j+1->sV l t=sV m t:=λt ht=>by
     by_cases et:t=j
     .rw[et];exact e1
     .exact I_ t ag
    clear e1
    go_wp2_with fail
    go_region;go_wp2
    go_roundw
    case rel=>exact⟨j+1,ag,aV,BN hw,nx⟩
    case measure=>simp[intOf];omega
   .have hne:((sV l j:Int)==(sV m j:Int))=false:=lM.2 λx=>e1 ag
    have hd:decide (l=m)=false:=dY λe=>e1 iV
    go_wp2_with fail
    go_region;go_wp2;go_ret;exact⟨by first|rfl|(rw[hd];rfl),BN hw⟩
  .obtain rfl:j=L:=ag;have E5:¬((j:Int)<(j:Int)):=ag;have hd:decide (l=m)=true:=gV (am0 (HE.out.trans HL.out) λt ht=>I_ t (by rw[<-HE.out];exact ht));go_wp2;go_ret;exact⟨by first|rfl|(rw[hd];rfl),hw⟩
theorem DO.below{w w':ah}{n B:Nat}{q:CL}{bd od:Nat->Nat}{yv:Nat->Nat->Nat}(h:DO w n q bd od yv)(hb:Below B w w')(hB:w.heap.size<=B):DO w' n q bd od yv:=
 ⟨λi hi=>bH (h.lt i hi) hb.size,h.here,λi m hi hm=>(hb.cell (p:=⟨bd i,_,none⟩) (bH (h.lt i hi) hB)).trans (h.y i m hi hm),h.yl⟩
def hdN(k i:Nat)(bl cp:Nat->Nat):aK:=(List.range i).map λj=>.slice (some ⟨bl j,0,none⟩) k (cp j)
theorem aks(k i b c:Nat)(bl cp:Nat->Nat):hdN k (i+1) (λj=>if j=i then b else bl j) (λj=>if j=i then c else cp j)=hdN k i bl cp++[.slice (some ⟨b,0,none⟩) k c]:=by
 unfold hdN;rw[dP,iP]
 congr 1
 .exact g_ λj hj=>by have:j<i:=iC;simp only[au (show¬j=i by omega)]
 .simp
structure RB(B k i:Nat)(bl cp:Nat->Nat)(M:Nat->Nat->F)(vm:ai)(w0 w:ah):Prop where
 head:w.ownsRow B 24 1 vm i (hdN k i bl cp)
 rows:∀j,j<i->w.ownsRow B 5 1 (.slice (some ⟨bl j,0,none⟩) k (cp j)) k (IQ k (M j))
 inj:∀a b,a<i->b<i->a≠b->bl a≠bl b
 xG:Below B w0 w
theorem RB.more{B k i g c:Nat}{bl cp:Nat->Nat}{M:Nat->Nat->F}{vm v':ai}{w0 w wa wb w1:ah}(h:RB B k i bl cp M vm w0 w)(hB:B<=w.heap.size)(ha:Below w.heap.size w wa)(hr:wa.ownsRow w.heap.size 5 1 (.slice (some ⟨g,0,none⟩) k c) k (IQ k (M i)))(hb:Below wa.heap.size wa wb)(hg:wb.grownBy w1 vm.ownBlock)(ho:w1.ownsRow B 24 1 v' (i+1) (hdN k i bl cp++[.slice (some ⟨g,0,none⟩) k c])):
  RB B k (i+1) (λj=>if j=i then g else bl j) (λj=>if j=i then c else cp j) M v' w0 w1:=by
 have hsa:=ha.size;have Kr:=hb.size;have hgb:(Value.slice (some ⟨g,0,none⟩) k c).ownBlock=some g:=rfl;have hgl:=hr.lt g hgb
 have old:∀x,x<w.heap.size->vm.ownBlock≠some x->w1.heap[x]?=w.heap[x]?:=λx hx hne=>by rw[hg.block x ag (λe=>hne e.symm),hb.block x ag,ha.block x hx]
 refine⟨by rw[aks];exact ho,λj hj=>?_,λa b ha' A8 V7=>?_,?_⟩
 .by_cases e:j=i
  .subst e;simp only[aY];refine(qH hr λx hx=>?_).mono hB;cases hx;rw[hg.block g ag (λe=>by have:=(h.head.lt g e.symm).2;omega),hb.block g hgl.2]
  .simp only[au e];have NZ:=h.rows j ag;refine qH NZ λx hx=>old x (NZ.lt x hx).2 λe=>x8 NZ h.head aB hx e
 .by_cases e1:a=i
  .rw[ax e1,au ag];have:=((h.rows b ag).lt (bl b) rfl).2;omega
  .rw[au e1];by_cases e2:b=i
   .rw[ax e2];have:=((h.rows a ag).lt (bl a) rfl).2;omega
   .rw[au e2];exact h.inj a b ag ag V7
 .exact((h.xG.trans (ha.mono hB)).trans (hb.mono ag)).grown hg ag (λx hx=>(h.head.lt x hx).1)
theorem RB.ss{B k g hc:Nat}{bl cp:Nat->Nat}{M:Nat->Nat->F}{w0 w:ah}(h:RB B k k bl cp M (.slice (some ⟨g,0,none⟩) k hc) w0 w):SS B k g hc bl cp M [] (.slice none 0 0) w w:=
 ⟨h.head,h.rows,h.inj,bY _ _ _ _,aO _ _⟩
theorem am1(k x:Nat):((List.range k).map λj=>Value.int .u8 ((sN k x j:Nat):Int))=IQ k (λj=>Fin.ofNat 256 (sN k x j)):=g_ λj _=>by rw[show(Fin.ofNat 256 (sN k x j)).val=sN k x j from dB Am]
theorem acd(n:Nat)(r:Nat->F):IQ (n+1) r=IQ n r++[.int .u8 (((r n).val:Nat):Int)]:=by simp[IQ,dP]
theorem LH{n:Nat}{r r':Nat->F}(h:∀j,j<n->r j=r' j):IQ n r=IQ n r':=g_ λj hj=>by rw[h j iC]
theorem afp:∀(l:List F.St)(u:Nat)(s:F.St),l[u]?=some s->∀p,p<4->(stL l)[u*4+p]?=(stC s)[p]?
 |[],u,s,h,_,_=>by simp at h
 |x::l,0,s,h,p,hp=>by
  simp at h;subst h;have e:stL (x::l)=stC x++stL l:=by simp[stL]
  rw[e,fO,bJ,ig (by simp[stC];omega)]
 |x::l,u+1,s,h,p,hp=>by
  have e:stL (x::l)=stC x++stL l:=by simp[stL]
  have hc:(stC x).length=4:=rfl;rw[e,ji (by rw[hc];omega),hc,show(u+1)*4+p-4=u*4+p by omega];exact afp l u s pW p hp
theorem akt{l:List F.St}{u:Nat}{s:F.St}(h:l[u]?=some s)(y:Nat->F):F.run (l.take (u+1)) y=F.ap s (F.run (l.take u) y):=by rw[auP,h];exact F.UQ s _ _
structure XB(B k go:Nat)(vs:ai)(l:List F.St)(n:Nat->Nat)(ov:Nat->ai)(xs:Nat->Nat->F)(w0 w:ah):Prop where
 st:w.ownsRow B 94 4 vs l.length (stL l)
 row:w.rowIs go 24 k ov
 own:∀j,j<k->w.ownsRow B 5 1 (ov j) (n j) (IQ (n j) (xs j))
 sep:∀a b,a<k->b<k->a≠b->∀g,(ov a).ownBlock=some g->(ov b).ownBlock≠some g
 xG:Below B w0 w
 gb:B<=go
section
variable {B k go:Nat}{vs:ai}{l:List F.St}{n:Nat->Nat}{ov:Nat->ai}{xs:Nat->Nat->F}{w0 w w':ah}
theorem XB.Ag(h:XB B k go vs l n ov xs w0 w)(hB:B<=w.heap.size)(hb:Below w.heap.size w w'):XB B k go vs l n ov xs w0 w':=
 ⟨qH h.st λg hg=>hb.block g (h.st.lt g hg).2,h.row.of_block (hb.block go h.row.lt),λj hj=>qH (h.own j hj) λg hg=>hb.block g ((h.own j hj).lt g hg).2,h.sep,h.xG.trans (hb.mono hB),h.gb⟩
theorem XB.size(h:XB B k go vs l n ov xs w0 w):B<=w.heap.size:=bF h.gb (jJ h.row.lt)
theorem XB.congr{n':Nat->Nat}(h:XB B k go vs l n ov xs w0 w)(e:∀j,j<k->n j=n' j):XB B k go vs l n' ov xs w0 w:=
 ⟨h.st,h.row,λj hj=>by rw[<-e j hj];exact h.own j hj,h.sep,h.xG,h.gb⟩
theorem XB.push{wa w1:ah}{i gv cv:Nat}{f:Nat->F}{v':ai}(h:XB B k go vs l n ov xs w0 w)(hi:i<k)(hv:w.ownsRow B 5 1 (.slice (some ⟨gv,0,none⟩) k cv) k (IQ k f))(hs:∀j,j<k->(ov j).ownBlock≠some gv)
  (ha:Below w.heap.size w wa) (hg:wa.grownBy w1 (ov i).ownBlock) (ho:w1.ownsRow B 5 1 v' (n i+1) (IQ (n i) (xs i)++[.int .u8 (((xs i (n i)).val:Nat):Int)])) (hw:v'.ownBlock=(ov i).ownBlock\/v'.ownBlock=some wa.heap.size):
  XB B k go vs l (λj=>if j=i then n i+1 else n j) (λj=>if j=i then v' else ov j) xs w0 (w1.setCell ⟨go,i,none⟩ v')/\(w1.setCell ⟨go,i,none⟩ v').ownsRow B 5 1 (.slice (some ⟨gv,0,none⟩) k cv) k (IQ k f)/\(∀j,j<k->(if j=i then v' else ov j).ownBlock≠some gv)/\w1.cell? ⟨go,i,none⟩=some (ov i)/\w1.frozen? ⟨go,i,none⟩=false:=by
 have hsa:=ha.size;have hgs:=hg.size;obtain⟨atQ,ara,_⟩:=h.row
 have gne:∀{t s m:Nat}{v:ai}{ys:aK},t≠24->w.ownsRow B t s v m ys->v.ownBlock≠some go:=λht hx e=>by obtain⟨c1,f1,e1⟩:=Lib.ownsRow_kind hx go e;rw[e1]at ara;cases ara;exact ht rfl
 have old:∀x,x<w.heap.size->(ov i).ownBlock≠some x->w1.heap[x]?=w.heap[x]?:=λx hx hne=>by rw[hg.block x ag (λe=>hne e.symm),ha.block x hx]
 have apm:∀x,x<w.heap.size->(ov i).ownBlock≠some x->x≠go->(w1.setCell ⟨go,i,none⟩ v').heap[x]?=w.heap[x]?:=λx hx hne hgo=>by rw[dA _ _ _ _ hgo];exact old x hx hne
 have r1:w1.rowIs go 24 k ov:=h.row.of_block (old go h.row.lt (gne aB (h.own i hi)))
 have vne:∀j,j<k->j≠i->∀g,(ov j).ownBlock=some g->v'.ownBlock≠some g:=λj hj hji g um e=>by
  rcases hw with h1|h1
  .exact h.sep i j hi hj (dE hji) g (h1▸e) um
  .rw[h1]at e;cases e;have:=((h.own j hj).lt _ um).2;omega
 refine⟨⟨?_,?_,λj hj=>?_,λa b ha' A8 V7 g hga hgb=>?_,?_,h.gb⟩,?_,λj hj e=>?_,r1.cell hi,r1.frozen i⟩
 .exact qH h.st λx hx=>apm x (h.st.lt x hx).2 (x8 h.st (h.own i hi) aB hx) (λe=>gne aB h.st (e▸hx))
 .exact r1.set i v'
 .by_cases e:j=i
  .subst e;simp only[aY];rw[acd];refine qH ho λx hx=>dA _ _ _ _ λe=>?_
   rw[show x=go from e]at hx;rcases hw with h1|h1
   .exact gne aB (h.own j hi) (h1▸hx)
   .rw[h1]at hx;have:wa.heap.size=go:=gu hx;have:=h.row.lt;omega
  .simp only[au e];exact qH (h.own j hj) λx hx=>apm x ((h.own j hj).lt x hx).2 (λe2=>h.sep i j hi hj (dE e) x e2 hx) (λe2=>gne aB (h.own j hj) (e2▸hx))
 .by_cases e1:a=i
  .rw[ax e1]at hga;rw[au ag]at hgb;exact vne b A8 ag g hgb hga
  .rw[au e1]at hga;by_cases e2:b=i
   .rw[ax e2]at hgb;exact vne a ha' e1 g hga hgb
   .rw[au e2]at hgb;exact h.sep a b ha' A8 V7 g hga hgb
 .exact((h.xG.trans (ha.mono h.size)).grown hg (by have:=h.size;omega) (λx hx=>((h.own i hi).lt x hx).1)).setCell h.gb _
 .exact qH hv λx hx=>apm x (hv.lt x hx).2 (λe=>by cases hx;exact hs i hi e) (λe=>gne aB hv (e▸hx))
 .by_cases e1:j=i
  .rw[ax e1]at e;rcases hw with h1|h1
   .exact hs i hi (h1▸e)
   .rw[h1]at e;have:wa.heap.size=gv:=gu e;have:=(hv.lt gv rfl).2;omega
  .rw[au e1]at e;exact hs j hj e
end
def am2(k L:Nat)(xs:Nat->Nat->F)(w:ah)(e:Ending)(w':ah):Prop:=∃go ov,e=.returned (.slice (some ⟨go,0,none⟩) k k)/\w'.rowIs go 24 k ov/\(∀j,j<k->w'.ownsRow w.heap.size 5 1 (ov j) L (IQ L (xs j)))/\Below w.heap.size w w'
def asv(B k:Nat)(M:Nat->Nat->F)(w:ah)(vm vi:ai)(wr:ah):Prop:=∃i bl cp,i<=k/\vi=.int .i64 ((i:Nat):Int)/\RB B k i bl cp M vm w wr
def XI(B k L go:Nat)(vs:ai)(l:List F.St)(xs:Nat->Nat->F)(w:ah)(vx:ai)(wr:ah):Prop:=∃x ov,x<=L/\vx=.int .i64 ((x:Nat):Int)/\XB B k go vs l (λ_=>x) ov xs w wr
def arb(B k go:Nat)(vs:ai)(l:List F.St)(x:Nat)(xs:Nat->Nat->F)(gv cv:Nat)(w:ah)(vi:ai)(wr:ah):Prop:=∃j oj,j<=k/\vi=.int .i64 ((j:Nat):Int)/\XB B k go vs l (λa=>if a<j then x+1 else x) oj xs w wr/\wr.ownsRow B 5 1 (.slice (some ⟨gv,0,none⟩) k cv) k (IQ k (λa=>xs a x))/\∀a,a<k->(oj a).ownBlock≠some gv
theorem ahq(a:aW)(n c:Nat):∀u∈[Value.slice a n c],u.oneCell'=true:=og
theorem aaX(k n bc oc cap:Nat)(q:CL)(bd od:Nat->Nat)(yv:Nat->Nat->Nat)(xs:Nat->Nat->F)(w:ah)(V4:0<k)(hk:k<=128)(hkn:k<=n)(hn:n<=9223372036854775807)(hL:q.L<=140737488355328)(hx:∀i,i<k->q.ix i<128)(hC:CO w bc oc n q)(hD:DO w k q bd od yv)
  (hI:F.Inj k (mF k q.ix)) (alS:∀m,m<q.L->∀i,i<k->F.dot k (mF k q.ix i) (λj=>xs j m)=Fin.ofNat 256 (yv i m)):
  Calls prog 15 #[.int .i64 ((k:Nat):Int),.slice (some ⟨bc,oc,none⟩) n cap] w λe w'=>am2 k q.L xs w e w':=by
 obtain⟨i0,zo,xY,wW,vV⟩:=cO Tryz.anD;obtain⟨i5,hi5,hy0,TR,hy2⟩:=cO Tryz.aau;have auc:(k:Int)<=(n:Int):=ag;go_enter func15,ntmps15;go_wp2
 go_loopw [5,6,7] (λvm vi _ wr=>asv w.heap.size k (mF k q.ix) w vm vi wr) (λ_ vi _ _=>k-(intOf vi).toNat)
 case atStart=>exact⟨0,λ_=>0,λ_=>0,ag,rfl,bY _ _ _ _,λ_ h=>absurd h ag,λ_ _ h=>absurd h ag,aO _ _⟩
 case round=>
  obtain⟨i,bl,cp,Jd,rfl,hR⟩:=hrel;have hsz:=hR.xG.size;by_cases qB:i<k
  .have xZ:(i:Int)<(k:Int):=ag;have VN:(i:Int)<(n:Int):=ag;have g0:=(hC.below hR.xG (ay _)).c0 i ag;have cr:=λu=>aas k (q.ix i) hk (hx i qB) u
   generalize hxi:q.ix i=xi at*
   go_wp2_with(first
    |(go_at_call 36;(with_reducible refine(cr _).mono ?_);rintro e wa ⟨v,rfl,hr,ha⟩;obtain⟨g,c,rfl,_,_⟩:=hr.form V4;have hh:=qH hR.head (λx hx=>ha.block x (hR.head.lt x hx).2);have hsa:=ha.size)
    |(at_builtin;refine di _ rfl _ _ 23 rfl w.heap.size 24 i0 (.slice none 0 0) 1 24 underlying23 zo xY wW vV rfl aB _ _ _ rfl (hh.alloc _) ⟨wa.heap.size,0,none⟩ 1 1 [.slice (some ⟨g,0,none⟩) k c] rfl rfl (cell_one_new _ _ _) (ahq _ _ _) bT ag aJ ?_;intro v' w1 tZ qA _))
   rw[am1]at hr;have hM:(λj=>Fin.ofNat 256 (sN k xi j))=mF k q.ix i:=by funext j;rw[<-hxi];rfl
   rw[hM]at hr;have LX:=hR.more hsz ha hr ((aO wa.heap.size wa).alloc (ay _) _) qA tZ;clear tZ qA hR hr;go_wp2
   go_roundw
   case rel=>exact⟨i+1,_,_,ag,aV,LX⟩
   case measure=>simp[intOf];omega
  .obtain rfl:i=k:=ag;have E5:¬((i:Int)<(i:Int)):=ag;obtain⟨g,hc,rfl,_,_⟩:=hR.head.form V4;have cs:=agl w.heap.size i g hc bl cp (mF i q.ix) wr hk hsz hR.ss hI;have tV:=hR.xG;clear hR
   go_wp2_with(first|(go_at_call 37;(with_reducible refine cs.mono ?_);rintro e w2 ⟨vs,m,l,rfl,uw,hRs,hU,rq,hll⟩;have mk:=Eb i ag w2))
   have uQ:=tV.trans rq;have hbd:i*(i+2)<=128*130:=iI ag ag
   have hX0:XB w.heap.size i w2.heap.size vs l (λ_=>0) (λ_=>.slice none 0 0) xs w (w2.alloc (.cells (madeCells #[.slice none 0 0] i) 24)):=
    ⟨uw.alloc _,World.rowIs_made w2 (.slice none 0 0) i 24,λj _=>bY _ _ _ _,λa b _ _ _ g hg=>by simp[Value.ownBlock]at hg,uQ.alloc uQ.size _,uQ.size⟩
   clear uw mk cs rq tV;generalize(w2.alloc (.cells (madeCells #[.slice none 0 0] i) 24))=w3 at*;generalize w2.heap.size=go at*;go_wp2
   go_loopw [10,11,12,13,14,15] (λvx _ _ _ _ _ wr=>XI w.heap.size i q.L go vs l xs w vx wr) (λvx _ _ _ _ _ _=>q.L-(intOf vx).toNat)
   case atStart=>exact⟨0,_,ag,rfl,hX0⟩
   case round=>
    clear hX0;obtain⟨x,ov,hxL,rfl,hX⟩:=hrel;have c00:=(hC.below hX.xG (ay _)).c1 0 ag;simp only[fO,fF]at c00;have hn0:(0:Int)<(n:Int):=ag;by_cases Ku:x<q.L
    .have anq:(x:Int)<(q.L:Int):=ag;obtain⟨wx,ewx⟩:∃u:ah,u=wr:=⟨wr,rfl⟩;subst ewx;have hBx:=hX.size;have hCx:=hC.below hX.xG (ay _);have hDx:=hD.below hX.xG (ay _);go_wp2
     go_loopw [11,12] (λvv vi wq=>∃t:Nat,t<=i/\vi=.int .i64 ((t:Nat):Int)/\wq.ownsRow wx.heap.size 5 1 vv t (IQ t (λj=>Fin.ofNat 256 (yv j x)))/\Below wx.heap.size wx wq) (λ_ vi _=>i-(intOf vi).toNat)
     case atStart=>exact⟨0,ag,rfl,bY _ _ _ _,aO _ _⟩
     case round=>
      obtain⟨t,hti,rfl,hv,hbv⟩:=hrel;have hsv:=hbv.size;by_cases TP:t<i
      .have arZ:(t:Int)<(i:Int):=ag;have htn:(t:Int)<(n:Int):=ag;have g1:=(hCx.below hbv (ay _)).c1 t ag;have g2:=(hDx.below hbv (ay _)).y t x TP Ku;rw[hD.here t TP ag]at g1;have ey:yv t x=(Fin.ofNat 256 (yv t x):F).val:=(dB (hD.yl t x)).symm;rw[ey]at g2;clear ey c00
       go_wp2_with(at_builtin;refine di _ rfl _ _ 24 rfl wx.heap.size 5 i5 (.int .u8 0) 1 1 underlying24 hi5 hy0 TR hy2 rfl aB _ _ _ rfl (hv.alloc _) ⟨wr.heap.size,0,none⟩ 1 1 [.int .u8 (((Fin.ofNat 256 (yv t x):F).val:Nat):Int)] rfl rfl (cell_one_new _ _ _) (JG _) bT ag aJ ?_;intro v' w1 tZ qA _)
       have hv2:w1.ownsRow wx.heap.size 5 1 v' (t+1) (IQ (t+1) (λj=>Fin.ofNat 256 (yv j x))):=by rw[acd];exact tZ
       have asw:Below wx.heap.size wx w1:=(hbv.alloc hsv _).grown qA aJ (λb hb=>(hv.lt b hb).1);clear tZ qA hv hbv;go_wp2
       go_roundw
       case rel=>exact⟨t+1,ag,aV,hv2,asw⟩
       case measure=>simp[intOf];omega
      .obtain rfl:t=i:=ag;have aat:¬((t:Int)<(t:Int)):=ag;obtain⟨gv,cv,rfl,hgv,_⟩:=hv.form V4;obtain⟨bs,cps,rfl⟩:=yS hX.st;go_wp2
       go_loopw [13,14] (λvi _ wq=>∃u:Nat,u<=l.length/\vi=.int .i64 ((u:Nat):Int)/\wq.ownsRow wx.heap.size 5 1 (.slice (some ⟨gv,0,none⟩) t cv) t (IQ t (F.run (l.take u) (λj=>Fin.ofNat 256 (yv j x))))/\Below wx.heap.size wx wq) (λvi _ _=>l.length-(intOf vi).toNat)
       case atStart=>exact⟨0,ag,rfl,by rw[gG];exact hv,hbv⟩
       case round=>
        clear hv hbv;obtain⟨u,hul,rfl,hv,hbv⟩:=hrel;have hsv:=hbv.size;by_cases hut:u<l.length
        .have atS:(u:Int)<(l.length:Int):=ag;obtain⟨s,hs⟩:∃s,l[u]?=some s:=⟨_,bQ hut⟩;obtain⟨gs,cgs,egs,_,hgs⟩:=hX.st.form ag;cases egs
         have cellS:∀p,p<4->wr.cell? ⟨gs,u*4+p,none⟩=(stC s)[p]?:=λp hp=>by rw[hbv.cell (p:=⟨gs,u*4+p,none⟩) hgs,hX.st.cellAt (u*4+p) ag];exact afp l u s hs p hp
         have e0:=cellS 0 ag;have e1:=cellS 1 ag;have e2:=cellS 2 ag;have e3:=cellS 3 ag;simp only[stC,jg,jh,fF]at e0 e1 e2 e3;have hfi:=hRs.fine s (jO hs);have hrt:=akt hs (λj=>Fin.ofNat 256 (yv j x));generalize F.run (l.take u) (λj=>Fin.ofNat 256 (yv j x))=f at*
         have n0:(wr.alloc (.cells #[.int .i64 ((s.kind:Nat):Int),.int .i64 ((s.a:Nat):Int),.int .i64 ((s.b:Nat):Int),.int .u8 ((s.z.val:Nat):Int)] 94)).rowIs wr.heap.size 94 4 (λp=>if p=0 then .int .i64 ((s.kind:Nat):Int)else if p=1 then .int .i64 ((s.a:Nat):Int)else if p=2 then .int .i64 ((s.b:Nat):Int)else .int .u8 ((s.z.val:Nat):Int)):=
          World.rowIs_alloc wr #[.int .i64 ((s.kind:Nat):Int),.int .i64 ((s.a:Nat):Int),.int .i64 ((s.b:Nat):Int),.int .u8 ((s.z.val:Nat):Int)] 94 _ (λp hp=>by
           have:p=0\/p=1\/p=2\/p=3:=by simp at hp;omega
           rcases this with rfl|rfl|rfl|rfl<;>rfl)
         have YB:=hv.alloc (.cells #[.int .i64 ((s.kind:Nat):Int),.int .i64 ((s.a:Nat):Int),.int .i64 ((s.b:Nat):Int),.int .u8 ((s.z.val:Nat):Int)] 94);have am3:=hbv.alloc hsv (.cells #[.int .i64 ((s.kind:Nat):Int),.int .i64 ((s.a:Nat):Int),.int .i64 ((s.b:Nat):Int),.int .u8 ((s.z.val:Nat):Int)] 94);generalize hW1:wr.alloc (.cells #[.int .i64 ((s.kind:Nat):Int),.int .i64 ((s.a:Nat):Int),.int .i64 ((s.b:Nat):Int),.int .u8 ((s.z.val:Nat):Int)] 94)=W1 at n0 YB am3;have a0:=n0.cell (i:=0) ag;have a1:=n0.cell (i:=1) ag;have a2:=n0.cell (i:=2) ag;have a3:=n0.cell (i:=3) ag;simp only[aY,ng,bU,Nat.reduceEqDiff]at a0 a1 a2 a3;have ba:=(YB.cellAt s.a (by have:=hfi.a;omega)).trans (Fq _ hfi.a);have bb:=(YB.cellAt s.b avM).trans (Fq _ hfi.b);have fa:=YB.frozenAt s.a;have fb:=YB.frozenAt s.b;have ha':(s.a:Int)<(t:Int):=by have:=hfi.a;omega
         have A8:(s.b:Int)<(t:Int):=avM;have am4:wr.heap.size≠gv:=by have:=(hv.lt gv rfl).2;omega
         clear cellS n0 hv hbv;by_cases k0:s.kind=0
         .have kk:(((s.kind:Nat):Int)==0)=true:=by rw[k0];rfl
          have st1:=(YB.stored s.a (.int .u8 (((f s.b).val:Nat):Int))).1;rw[OV]at st1;have st2:=(st1.stored s.b (.int .u8 (((f s.a).val:Nat):Int))).1;rw[OV]at st2;have d1:=(st1.cellAt s.b avM).trans (Fq _ hfi.b);have d2:=st1.frozenAt s.b;have rq:Below wx.heap.size wx ((W1.setCell ⟨gv,s.a,none⟩ (.int .u8 (((f s.b).val:Nat):Int))).setCell ⟨gv,s.b,none⟩ (.int .u8 (((f s.a).val:Nat):Int))):=(am3.setCell hgv _).setCell hgv _
          rw[LH (r':=F.run (l.take (u+1)) (λj=>Fin.ofNat 256 (yv j x))) (λj _=>by
           rw[hrt];unfold F.ap;rw[ax k0];by_cases q1:j=s.b
           .by_cases q2:j=s.a
            .rw[ax q1,ax q2,<-q1,<-q2]
            .rw[ax q1,au q2,ax q1]
           .rw[au q1];by_cases q2:j=s.a
            .rw[ax q2,ax q2]
            .rw[au q2,au q2,au q1])]at st2
          have a2':(W1.setCell ⟨gv,s.a,none⟩ (.int .u8 (((f s.b).val:Nat):Int))).cell? ⟨wr.heap.size,2,none⟩=some (.int .i64 ((s.b:Nat):Int)):=by have hh:=dA W1 ⟨gv,s.a,none⟩ (.int .u8 (((f s.b).val:Nat):Int)) wr.heap.size am4;simp only[World.cell?,hh]at a2⊢;exact a2
          clear st1 hrt k0 hfi hs am4;generalize s.kind=sk at*;generalize s.a=sa at*;generalize s.b=sb at*;generalize(f sa).val=va at*;generalize(f sb).val=vb at*
          go_wp2_with fail
          go_region;generalize(W1.setCell ⟨gv,sa,none⟩ (.int .u8 ((vb:Nat):Int))).setCell ⟨gv,sb,none⟩ (.int .u8 ((va:Nat):Int))=wz at st2 rq⊢;have st3:=st2.drew;have aaY:Below wx.heap.size wx wz.drew:=rq.drew;clear st2 rq;go_wp2
          go_roundw
          case rel=>exact⟨u+1,ag,aV,st3,aaY⟩
          case measure=>simp[intOf];omega
         .have kk:(((s.kind:Nat):Int)==0)=false:=aJ;by_cases k1:s.kind=1
          .have kk1:(((s.kind:Nat):Int)==1)=true:=by rw[k1];rfl
           have cm:=λu=>GG (f s.a).val s.z.val (f s.a).isLt s.z.isLt u
           rw[H8]at cm;have st1:=(YB.stored s.a (.int .u8 (((F.mu (f s.a) s.z).val:Nat):Int))).1;rw[OV]at st1;rw[LH (r':=F.run (l.take (u+1)) (λj=>Fin.ofNat 256 (yv j x))) (λj _=>by rw[hrt];unfold F.ap;rw[au k0,ax k1])]at st1;have rq:Below wx.heap.size wx (W1.setCell ⟨gv,s.a,none⟩ (.int .u8 (((F.mu (f s.a) s.z).val:Nat):Int))):=am3.setCell hgv _;clear hrt k0 k1 hfi hs am4;generalize F.mu (f s.a) s.z=mz at*;generalize s.kind=sk at*;generalize s.a=sa at*
           go_wp2_with fail
           refine uA 12 mixed ak ?_;simp only[jc,gG,jm,ik]
           repeat still_step
           still_call (cm _)
           repeat still_step
           refine wpStill_nil ?_;go_wp2;have st3:=st1.drew;have aaY:Below wx.heap.size wx (W1.setCell ⟨gv,sa,none⟩ (.int .u8 ((mz.val:Nat):Int))).drew:=rq.drew
           go_roundw
           case rel=>exact⟨u+1,ag,aV,st3,aaY⟩
           case measure=>simp[intOf];omega
          .have kk1:(((s.kind:Nat):Int)==1)=false:=aJ;have cm:=λu=>GG s.z.val (f s.b).val s.z.isLt (f s.b).isLt u
           rw[H8]at cm;have hxo:=u8_xor_nat (f s.a).val (F.mu s.z (f s.b)).val (f s.a).isLt (F.mu s.z (f s.b)).isLt;rw[show(f s.a).val^^^(F.mu s.z (f s.b)).val=(F.add (f s.a) (F.mu s.z (f s.b))).val from rfl]at hxo;have st1:=(YB.stored s.a (.int .u8 (((F.add (f s.a) (F.mu s.z (f s.b))).val:Nat):Int))).1;rw[OV]at st1;rw[LH (r':=F.run (l.take (u+1)) (λj=>Fin.ofNat 256 (yv j x))) (λj _=>by rw[hrt];unfold F.ap;rw[au k0,au k1])]at st1;have rq:Below wx.heap.size wx (W1.setCell ⟨gv,s.a,none⟩ (.int .u8 (((F.add (f s.a) (F.mu s.z (f s.b))).val:Nat):Int))):=am3.setCell hgv _;clear hrt k0 k1 hfi hs am4;generalize F.add (f s.a) (F.mu s.z (f s.b))=az at*;generalize F.mu s.z (f s.b)=mz at*;generalize s.kind=sk at*;generalize s.a=sa at*;generalize s.b=sb at*
           go_wp2_with fail
           refine uA 18 mixed ak ?_;simp only[jc,gG,jm,ik]
           repeat still_step
           still_call (cm _)
           repeat still_step
           refine wpStill_nil ?_;go_wp2;have st3:=st1.drew;have aaY:Below wx.heap.size wx (W1.setCell ⟨gv,sa,none⟩ (.int .u8 ((az.val:Nat):Int))).drew:=rq.drew
           go_roundw
           case rel=>exact⟨u+1,ag,aV,st3,aaY⟩
           case measure=>simp[intOf];omega
        .obtain rfl:u=l.length:=ag;have alP:¬((l.length:Int)<(l.length:Int)):=ag;rw[List.take_length,LH (r':=λj=>xs j x) (λj hj=>hRs.told hU (alS x Ku) j hj)]at hv;have hX1:=hX.Ag hBx hbv;have YB:=hv.mono hBx;have hsp:∀j,j<t->(ov j).ownBlock≠some gv:=λj hj e=>by have:=((hX.own j hj).lt gv e).2;omega
         have h0:arb w.heap.size t go (.slice bs l.length cps) l x xs gv cv w (.int .i64 0) wr:=⟨0,ov,ag,rfl,hX1,YB,hsp⟩;clear hv hbv hX1 YB hsp hX hCx hDx;go_wp2
         go_loopw [15] (λvi wq=>arb w.heap.size t go (.slice bs l.length cps) l x xs gv cv w vi wq) (λvi _=>t-(intOf vi).toNat)
         case atStart=>exact h0
         case round=>
          clear h0;obtain⟨j,oj,hjt,rfl,hX,hv,hsp⟩:=hrel;by_cases hjk:j<t
          .have arY:(j:Int)<(t:Int):=ag;have r1:=hX.row.cell hjk;have r2:=(hv.cellAt j ag).trans (Fq _ hjk);have hoj:=hX.own j hjk;rw[au ag]at hoj;have apD:=hX.size;have r1':=(hX.row.alloc (.cells #[.int .u8 (((xs j x).val:Nat):Int)] 5)).cell hjk;have r2':=((hv.alloc (.cells #[.int .u8 (((xs j x).val:Nat):Int)] 5)).cellAt j ag).trans (Fq _ hjk)
           go_wp2_with fail
           go_region_law ((refine AB rfl _ _ 24 rfl w.heap.size 5 i5 (.int .u8 0) 1 1 underlying24 hi5 hy0 TR hy2 rfl aB _ _ _ rfl ((hoj.alloc _).drew) ⟨wr.heap.size,0,none⟩ 1 1 [.int .u8 (((xs j x).val:Nat):Int)] rfl rfl (cell_one_new _ _ _) (JG _) bT ag aJ ?_;intro v' w1 tZ qA hwh;obtain⟨gq,cq,rfl,_,_⟩:=tZ.form ag;obtain⟨RQ,hv2,apK,c1,f1⟩:=hX.push hjk hv hsp (((aO wr.heap.size wr).alloc (ay _) _).drew) qA (by rw[au (show¬j<j by omega)];exact tZ) hwh))
           all_goals
            go_wp2
            go_roundw
            case rel=>
             refine⟨j+1,_,ag,aV,RQ.congr (λa _=>?_),hv2,apK⟩;simp only[au (show¬j<j by omega)];by_cases e1:a=j
             .rw[ax e1,ax ag]
             .rw[au e1];by_cases e2:a<j
              .rw[ax e2,ax ag]
              .rw[au e2,au ag]
            case measure=>simp[intOf];omega
          .obtain rfl:j=t:=ag;have atT:¬((j:Int)<(j:Int)):=ag;have RQ:=hX.congr (n':=λ_=>x+1) (λa ha=>by rw[ax ha]);go_wp2
           go_roundw
           case rel=>exact⟨x+1,oj,ag,aV,RQ⟩
           case measure=>simp[intOf];omega
    .obtain rfl:x=q.L:=ag;have aat:¬((q.L:Int)<(q.L:Int)):=ag;go_wp2;go_ret;exact⟨go,ov,rfl,hX.row,hX.own,hX.xG⟩
theorem ql.drew{w:ah}{b:Nat}{cs:aK}{t:aG}(h:ql w b cs t):ql w.drew b cs t:=h
theorem Yq(l:aj)(en:Nat):∀(c a:Nat)(ns:List (aj))(zs:aC){ns':List (aj)}{zs':aC}{a':Nat},zs.sum<=65536->yC l en c a ns zs=.ok (ns',zs',a')->zs'.sum<=65536/\zs'.length=zs.length+c/\ns'.length=ns.length+c
 |0,a,ns,zs,ns',zs',a',hz,h=>by unfold yC at h;cases h;exact⟨hz,rfl,rfl⟩
 |c+1,a,ns,zs,ns',zs',a',hz,h=>by
  unfold yC at h;split at h
  .cases h
  .split at h
   .cases h
   .split at h
    .cases h
    .split at h
     .cases h
     .rename_i _ _ _ h4
      have hs:(zs++[le l (a+2+le l a 2) 4]).sum<=65536:=by
       unfold rZ at h4;split at h4
       .assumption
       .omega
      have:=Yq l en c _ _ _ hs h;simp only[bM,dQ,d_]at this;omega
theorem RH:∀(zs:aC)(j:Nat),zs.getD j 0<=zs.sum
 |[],j=>by simp
 |z::zs,0=>by simp
 |z::zs,j+1=>by have:=RH zs j;simp only[av1,nD];omega
theorem agf{l:aj}{m:Nat}{ns:List (aj)}{zs:aC}(h:vX l m=.ok (ns,zs)):sS l 32 m=none/\(∀j,zs.getD j 0<=65536)/\zs.length<=1000/\zs.sum<=65536/\ns.length=zs.length:=by
 unfold vX at h;cases hs:sS l 32 m with
 |some e=>rw[hs]at h;cases h
 |none=>
  rw[hs]at h;simp only at h;split at h
  .cases h
  .rename_i hN;cases hb:yC l (32+m) (le l 32 4) 36 [] []with
   |error e=>rw[hb]at h;cases h
   |ok x=>
    obtain⟨ns',zs',a'⟩:=x;rw[hb]at h;simp only[Wl]at h;split at h
    .cases h;obtain⟨h1,h2,h3⟩:=Yq l (32+m) _ _ _ _ aA hb;simp only[d_,bJ]at h2 h3;exact⟨rfl,λj=>bF (RH zs j) h1,ag,h1,ag⟩
    .cases h
theorem NC{l:aj}{a n:Nat}(h:sS l a n=none):a+n+8<=l.length:=by
 unfold sS at h;split at h
 .cases h
 .omega
theorem UN(l:aj)(low:Bool)(ch ln:Nat)(en:Int):∀(f a:Nat)(qC:aj){YI:aj}{a':Nat},a<=l.length->tu l low ch ln en f a qC=.ok (YI,a')->a'<=l.length
 |0,a,qC,YI,a',ha,h=>by unfold tu at h;cases h;exact ha
 |f+1,a,qC,YI,a',ha,h=>by
  unfold tu at h;split at h
  .cases h;exact ha
  .split at h
   .cases h
   .rename_i hs;split at h
    .cases h
    .exact UN l low ch ln en f _ _ (NC hs) h
theorem ac9(sb:Nat)(s:ByteArray)(e:Nat)(he:e≠0)(w:ah)(h:w.cell? ⟨sb,2,none⟩=some (.int .i64 (e:Int)))(hs:0<s.size):
  Calls prog 34 #[.pointer (some ⟨sb,0,none⟩),.string s] w λq w'=>q=.returned (.tuple #[])/\w'=w:=by
 have LM:((e:Int)==0)=false:=aJ;clear he;go_enter func34,ntmps34;go_wp2
 go_loop [4] (λvi=>vi=.int .i64 0) (λ_=>0)
 case atStart=>rfl
 case round=>
  subst hrel;go_wp2;go_end0;exact⟨rfl,rfl⟩
theorem XA(sb:Nat)(ok:Bool)(X Y:Int)(e:Nat)(he:e≠0)(w:ah)(h:w.cell? ⟨sb,2,none⟩=some (.int .i64 (e:Int))):
  Calls prog 31 #[.pointer (some ⟨sb,0,none⟩),.bool ok,.int .i64 X,.int .i64 Y] w λq w'=>q=.returned (.tuple #[])/\w'=w:=by
 cases ok
 .exact Yp sb X Y e he w h
 .exact Le sb X Y w
def aiL(l:aj)(k i ch ln N7:Nat)(zs:aC)(r1 r2:Option (Nat×Nat))(a:Nat)(qC:aj):Prop:=
 match r1 with
 |some e=>r2=some e
 |none=>match tu l (decide (i<k)) ch ln ((rZ zs:Int)-((i*uu k zs:Nat):Int)) ln N7 []with
  | .error e=>r2=some e
  | .ok (c',a')=>r2=none/\qC=c'/\a=a'
section
variable (sb xb bb bo cap:Nat)(BR:bb≠sb)(hbx:bb≠xb)(CQ:xb≠sb)(l:aj)(uF:l.length<=cap)(k n i ch N7:Nat)(NU:1<=k)(SY:k<=128)(hi:i<128)(vN vS:ai)(zs:aC)(hz:∀j,zs.getD j 0<2^63)(Xd:zs.length<2^60)
  (ln:Nat) (Je:ln<=65537) (w:ah) (hx:Wp w xb k n i ch vN vS (.slice none 0 0)) (hS:acb w vS (uH zs)) (hb:xM w bb bo l) (Ah:bb<w.heap.size)
include BR hbx CQ uF NU SY hi hz Xd Je hx hS hb Ah in
theorem ac8(r1:Option (Nat×Nat))(h:yX w sb (.slice (some ⟨bb,bo,none⟩) l.length cap) N7 r1)(hat:N7<2^58)(hl2:l.length<2^58)(aq8:1<=ch)(aq9:ch<=65536):
  Calls prog 33 #[.pointer (some ⟨sb,0,none⟩),.pointer (some ⟨xb,0,none⟩),.int .i64 (ln:Int)] w λq w'=>q=.returned (.tuple #[])/\
   ∃vC a qC r2,zg w sb xb bb bo cap l k n i ch vN vS vC a qC w.heap.size r2 w'/\aiL l k i ch ln N7 zs r1 r2 a qC:=by
 cases r1 with
 |some e=>
  refine(aei sb xb bb bo cap l k n i ch N7 NU SY vN vS zs hz Xd ln w hx hS e h).mono ?_;rintro q w' ⟨h1,h2,h3⟩;refine⟨h1,.slice none 0 0,N7,[],some e,⟨h3,h.heap h2,⟨?_⟩,bY _ _ _ _⟩,rfl⟩;have:=hx.row;unfold ql at*;rw[h2];exact this
 |none=>
  refine(ahp sb xb bb bo cap BR hbx CQ l ag uF k n i ch N7 NU SY hi vN vS zs hz Xd ln Je w hx hS hb Ah h hat hl2 aq8 aq9).mono ?_;rintro q w' ⟨h1,h2⟩;refine⟨h1,?_⟩;unfold VH at h2;unfold aiL;cases hf:tu l (decide (i<k)) ch ln ((rZ zs:Int)-((i*uu k zs:Nat):Int)) ln N7 []with
  |error e=>
   rw[hf]at h2;obtain⟨vC,a,qC,h3⟩:=h2;exact⟨vC,a,qC,some e,h3,by simp only⟩
  |ok x=>
   obtain⟨c',a'⟩:=x;rw[hf]at h2;obtain⟨vC,h3⟩:=h2;exact⟨vC,a',c',none,h3,by simp only;exact⟨trivial,trivial,trivial⟩⟩
end
theorem ac7{l:aj}(he:Bc l=none):uS l 0 vJ=none/\sS l 0 24=none/\Md none (le l 6 1) (le l 7 1) (le l 8 1) (le l 9 1) (le l 10 4) (le l 14 4) (le l 18 4) (le l 22 2)=none:=by
 unfold Bc at he;cases Z7:ug (uS l 0 vJ) (sS l 0 24)with
 |some x=>rw[Z7]at he;cases he
 |none=>
  rw[Z7]at he
  have h1:uS l 0 vJ=none:=by
   cases hf:uS l 0 vJ with
   |none=>rfl
   |some x=>rw[hf]at Z7;cases Z7
  have h2:sS l 0 24=none:=by rw[h1]at Z7;exact Z7
  exact⟨h1,h2,he⟩
theorem JC{B:Nat}{a w:ah}(h:Below B a w)(n:Nat):Below B a (w.drewN n):=h.trans ⟨rfl,rfl,rfl,ay _,λ_ _=>rfl⟩
