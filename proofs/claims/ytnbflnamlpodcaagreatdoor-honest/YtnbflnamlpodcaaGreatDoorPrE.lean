import Derived.Test.YtnbflnamlpodcaaGreatDoorPlC
set_option maxHeartbeats 8000000
set_option maxRecDepth 100000
namespace Go.Proofs.Y
open Go.Proofs.Tryz
open Go.RowKit Go.Deep
def St.rd(s:St)(vN vS vC vT vF:ai):Rd:=⟨s.k,s.n,s.i,s.c,vN,vS,vC,s.m,s.ln,s.tt,s.nx,s.pl,vT,vF⟩
structure RI(B:Nat)(w:ah)(rb:Nat)(s:St)(t:ak)(vN vS vC vT:ai):Prop where
 rd:yw w rb (s.rd vN vS vC vT .nilIface)
 on:w.ownsRow B 9 1 vN s.ns.length (DT s.ns)
 os:w.ownsRow B 3 1 vS s.zs.length (zV s.zs)
 oc:rO B w vC s.qH
 ot:rO B w vT t
 ap:QW vC vT
 size:B<=w.heap.size
def qZ(rb:Nat)(vC vT:ai)(k:Nat):Prop:=k=rb\/vC.ownBlock=some k\/vT.ownBlock=some k
structure Bd(s:St):Prop where
 m:s.m<=300000
 c:s.c<=65536
 ln:s.ln<=65536
 qH:s.qH.length<=s.ln
 nx:s.nx<=4
 pl:s.pl<=1000000
theorem rO.lies{B:Nat}{w:ah}{v:ai}{l:ak}(h:rO B w v l):qU w v (sJ l):=by
 have h2:=h;unfold rO at h;rcases h.2 with⟨e,h0⟩|⟨g,c,cur,e,hg,hh,hc,_⟩
 .subst e;have:l=[]:=lY.1 h0;subst this;exact⟨none,0,rfl,eX,λj u hj=>oh⟩
 .refine⟨some ⟨g,0,none⟩,c,by rw[e,sZ],by rw[sZ];exact hc,λj u hj=>⟨g,0,rfl,?_⟩⟩;obtain⟨hj1,rfl⟩:=VV hj;rw[e]at h2;have:=World.ownsRow.cellAt h2 j ag;rw[bM,this];exact wJ hj1
theorem rO.slice{B:Nat}{w:ah}{v:ai}{l:ak}(h:rO B w v l):∃ba cap,v=.slice ba l.length cap/\l.length<=cap:=by obtain⟨ba,cap,e,hc,_⟩:=h.lies;rw[sZ]at e hc;exact⟨ba,cap,e,hc⟩
theorem VW(a:aY)(len cap:Nat)(N:Int)(n:Nat)(hN:N=n)(hn:n<=cap):∀w,(Instr.slice 34 (.slice a len cap) none (some (.int .i64 N)) none).run prog w=.ok (.slice a n cap) w:=by
 intro w;subst hN;have hu:prog.underlying 34=some (.slice (prog.elem 34)):=underlying34;rw[run_slice_h w 34 _ _ _ hu .i64 n ag ag]
 have hsz:(sizeOf (prog.elem 34)).run prog w=.ok 1 w:=by simp[sizeOf,go_sem];rfl
 rw[hsz];simp only[Result.andThen,sliced,iH,je];cases a with
 |none=>simp
 |some ad=>simp[Addr.add]
theorem acA(a:aY)(len cap:Nat)(N:Int)(n:Nat)(hN:N=n)(hn:n<=len):∀w,(Instr.slice 34 (.slice a len cap) (some (.int .i64 N)) none none).run prog w=.ok (.slice (if cap=n then a else a.map (·.add n)) (len-n) (cap-n)) w:=by
 subst hN;have hu:prog.underlying 34=some (.slice (prog.elem 34)):=underlying34
 have hsz:∀w,(sizeOf (prog.elem 34)).run prog w=.ok 1 w:=λw=>by simp[sizeOf,go_sem];rfl
 intro w;rw[run_slice_l w 34 _ _ _ hu .i64 n ag ag,hsz];simp only[Result.andThen,iH,sliced,je]
def Pt(w:ah)(M:Nat->Prop)(v:ai)(p:ak):Prop:=
 (v=.slice none 0 0/\p=[])\/∃ad cap,v=.slice (some ad) p.length cap/\p.length<=cap/\(0<p.length->¬M ad.block)/\∀j,j<p.length->w.cell? (ad.add j)=some (.int .u8 (tZ p j:Int))
theorem add_block(ad:Addr)(j:Nat):(ad.add j).block=ad.block:=by unfold Addr.add;split<;>rfl
theorem add_add(ad:Addr)(i j:Nat):(ad.add i).add j=ad.add (i+j):=by
 unfold Addr.add;by_cases h1:i=0
 .simp[h1]
 .by_cases h2:j=0
  .simp[h2]
  .have:¬i+j=0:=ag;simp only[h1,h2,this,bQ,dW]
theorem Pt.cut{w:ah}{M:Nat->Prop}{ad:Addr}{cap n:Nat}{p:ak}(h1:p.length<=cap)(h2:0<p.length->¬M ad.block)(h3:∀j,j<p.length->w.cell? (ad.add j)=some (.int .u8 (tZ p j:Int)))(hn:n<=p.length):Pt w M (.slice (if cap=n then some ad else(some ad).map (·.add n)) (p.length-n) (cap-n)) (p.drop n):=by
 right
 have hl:(p.drop n).length=p.length-n:=ax;by_cases q:cap=n
 .rw[ay q];exact⟨ad,_,by rw[hl],oz,λh=>h2 ag,λj hj=>by rw[hl]at hj;omega⟩
 .rw[au q];refine⟨ad.add n,_,by rw[hl];rfl,oz,λh=>by rw[add_block];exact h2 ag,λj hj=>?_⟩;rw[hl]at hj;rw[add_add,h3 (n+j) ag];simp[tZ]
theorem Pt.later{w w':ah}{M M' S:Nat->Prop}{v:ai}{p:ak}(h:Pt w M v p)(hb:rQ w.heap.size S w w')(hS:∀k,S k->M k)(hM:∀k,k<w.heap.size->M' k->M k):Pt w' M' v p:=by
 rcases h with h|⟨ad,cap,rfl,h1,h2,h3⟩
 .exact .inl h
 .right
  refine⟨ad,cap,rfl,h1,λh=>?_,λj hj=>?_⟩
  .have qK:(ad.add 0).block<w.heap.size:=rG (h3 0 h);rw[add_block]at qK;exact λx=>h2 h (hM _ qK x)
  .have qK:(ad.add j).block<w.heap.size:=rG (h3 j hj);have hnS:¬S (ad.add j).block:=λx=>h2 ag (by rw[add_block]at x;exact hS _ x)
   rw[hb.cell qK hnS];exact h3 j hj
theorem Ky{P:aN}{ops:Array Oper}{o:Oper}{a:Act}{w:ah}{K:Act->ah->Prop}{Q:Exit->Act->ah->Prop}{E:Prop}
  (hg:o.guard=none) (s x:Operand) (t:aF) (uT:o.op=Op.call {callee:=Callee.builtin Builtin.append,args:=#[s,x],argTypes:=#[t,t]})
  (base:Nat) (e:aF) (i:TypeInfo) (z:ai) (size bytes:Nat) (h1:P.underlying t=some (.slice e)) (h2:P.info? e=some i) (h3:i.zero=some z) (h4:i.size=size) (h5:i.bytes=bytes) (h6:z.cells.size=size) (h7:0<size)
  (v:ai) (n:Nat) (xs:aK) (hs:a.eval s=v) (wS:w.ownsRow base e size v n xs)
  (ad:Addr) (m c:Nat) (news:aK) (hx:a.eval x=.slice (some ad) m c) (hn:news.length=m*size) (hc:∀j u,news[j]?=some u->w.cell? (ad.add j)=some u) (h1c:∀u∈news,u.oneCell'=true)
  (b1:n+m<=maxLen) (b2:(n+m)*bytes<=140737488355328) (alD:base<=w.heap.size)
  (hK:∀v' w',w'.ownsRow base e size v' (n+m) (xs++news)->w.grownBy w' v.ownBlock->(v'.ownBlock=v.ownBlock\/v'.ownBlock=some w.heap.size)->K (a.put o.dst v') w'):
  if Region.wanted o (yielded ops a.tmps)=true then Oper.wp P o a w K Q else E:=by
 have hw:Region.wanted o (yielded ops a.tmps)=true:=awp;rw[ay hw];obtain⟨v',w',hr,r1,r2,_,r4⟩:=run_append_own_at (P:=P) w base t o.type e i z size bytes h1 h2 h3 h4 h5 h6 h7 v n xs wS ad m c news hn hc h1c b1 b2 alD;unfold Oper.wp;exact azY
theorem Ua{P:aN}{ops:Array Oper}{o:Oper}{a:Act}{w:ah}{K:Act->ah->Prop}{Q:Exit->Act->ah->Prop}{E:Prop}
  (hg:o.guard=none) (s x:Operand) (t:aF) (uT:o.op=Op.call {callee:=Callee.builtin Builtin.append,args:=#[s,x],argTypes:=#[t,t]})
  (base:Nat) (e:aF) (i:TypeInfo) (size:Nat) (h1:P.underlying t=some (.slice e)) (h2:P.info? e=some i)
  (v:ai) (n:Nat) (xs:aK) (hs:a.eval s=v) (wS:w.ownsRow base e size v n xs) (hx:a.eval x=.slice none 0 0)
  (hK:K (a.put o.dst v) w):
  if Region.wanted o (yielded ops a.tmps)=true then Oper.wp P o a w K Q else E:=by
 have hw:Region.wanted o (yielded ops a.tmps)=true:=awp;rw[ay hw];have hr:=run_append_owned_none (P:=P) (w:=w) base t o.type e i size h1 h2 v n xs wS;unfold Oper.wp;simp[execOp,uT,resolve,invoke,builtin,hs,hx,hr,Result.andThen];exact hK
theorem LP{w:ah}{B e n:Nat}{v:ai}{xs:aK}(h:w.ownsRow B e 1 v n xs){g:Nat}(hg:v.ownBlock=some g):∃cur,w.heap[g]?=some (.cells cur e (0,0)):=by
 rcases h.2 with⟨rfl,_⟩|⟨g',cap,cur,rfl,_,hh,_⟩
 .cases hg
 .cases hg;exact⟨cur,hh⟩
theorem uM{w:ah}{B e n rb:Nat}{v:ai}{xs:aK}{r:Rd}(h:w.ownsRow B e 1 v n xs)(hr:yw w rb r)(he:e≠122):v.ownBlock≠some rb:=by intro hg;obtain⟨cur,hh⟩:=LP h hg;have hr':w.heap[rb]?=some (.cells r.cells.toArray 122 (0,0)):=hr;rw[hr']at hh;cases hh;exact he rfl
theorem IA{w:ah}{B e e' n n':Nat}{v v':ai}{xs xs':aK}(h:w.ownsRow B e 1 v n xs)(h':w.ownsRow B e' 1 v' n' xs')(he:e≠e'):QW v v':=by intro g hg uO;obtain⟨cur,hh⟩:=LP h hg;obtain⟨avc,hh'⟩:=LP h' uO;rw[hh]at hh';cases hh';exact he rfl
theorem yw.ahx{w:ah}{rb:Nat}{s:St}{vN vS vC vT vF:ai}(h:yw w rb (s.rd vN vS vC vT vF))(v:ai):yw (w.setCell ⟨rb,12,none⟩ v) rb (s.rd vN vS vC v vF):=ql.set h 12 v
theorem uZ{w:ah}{B e n rb i:Nat}{v u:ai}{xs:aK}(h:w.ownsRow B e 1 v n xs)(hr:v.ownBlock≠some rb):(w.setCell ⟨rb,i,none⟩ u).ownsRow B e 1 v n xs:=
 vU h (λg hg=>dD _ _ _ _ (λe=>hr (by rw[hg,e])))
theorem RI.text{B rb:Nat}{w w1:ah}{s:St}{t x:ak}{vN vS vC vT v1:ai}(I:RI B w rb s t vN vS vC vT)(h1:rO B w1 v1 (t++x))(hg:w.grownBy w1 vT.ownBlock)(hk:v1.ownBlock=vT.ownBlock\/v1.ownBlock=some w.heap.size):
  RI B (w1.setCell ⟨rb,12,none⟩ v1) rb s (t++x) vN vS vC v1/\rQ w.heap.size (qZ rb vC vT) w (w1.setCell ⟨rb,12,none⟩ v1)/\w1.cell? ⟨rb,12,none⟩=some vT/\w1.frozen? ⟨rb,12,none⟩=false:=by
 have ap9:=ql.lt I.rd;have hT:=uM I.ot I.rd aC
 have Tt:yw w1 rb (s.rd vN vS vC vT .nilIface):=by exact azI
 have key:∀{e n:Nat}{v:ai}{xs:aK},w.ownsRow B e 1 v n xs->QW v vT->w1.ownsRow B e 1 v n xs:=λh ha=>vU h (λg uO=>hg.block g (h.lt g uO).2 (λe=>ha g uO e.symm))
 have hN1:=key I.on (IA I.on I.ot aC);have Qp:=key I.os (IA I.os I.ot aC);have hC1:=key I.oc I.ap;refine⟨⟨Tt.ahx v1,uZ hN1 (uM hN1 Tt aC),uZ Qp (uM Qp Tt aC),uZ hC1 (uM hC1 Tt aC),uZ h1 (uM h1 Tt aC),?_,?_⟩,?_,ql.cell Tt (i:=12) rfl,ql.frozen Tt 12⟩
 .intro g Tf Ue;rcases hk with e|e
  .exact I.ap g Tf (e▸Ue)
  .have h2:=(gJ I.oc g Tf).2;rw[e]at Ue;cases Ue;omega
 .have:=I.size;have:=hg.size;simp;omega
 .exact rQ.setCell (rQ.mono (rQ.acB hg) (az _) (λk hk=>.inr (.inr hk))) (p:=⟨rb,12,none⟩) (.inr (.inl rfl)) v1
theorem ant(a b:ak):sJ a++sJ b=sJ (a++b):=eX
theorem St.YT{s:St}(hb:Bd s):s.sz<=400000:=by
 unfold St.sz yT;have:=hb.m;have:=hb.c;have:=hb.ln;split
 .omega
 .split
  .omega
  .split
   .omega
   .omega
theorem RI.drewN{B rb:Nat}{w:ah}{s:St}{t:ak}{vN vS vC vT:ai}(I:RI B w rb s t vN vS vC vT)(j:Nat):RI B (w.drewN j) rb s t vN vS vC vT:=⟨I.rd,I.on,I.os,I.oc,I.ot,I.ap,I.size⟩
theorem RI.drew{B rb:Nat}{w:ah}{s:St}{t:ak}{vN vS vC vT:ai}(I:RI B w rb s t vN vS vC vT):RI B w.drew rb s t vN vS vC vT:=⟨I.rd,I.on,I.os,I.oc,I.ot,I.ap,I.size⟩
theorem aaB{B n:Nat}{w:ah}{v:ai}{t x:ak}(h:w.ownsRow B 5 1 v n (sJ t++sJ x)):rO B w v (t++x):=by rw[ant]at h;exact rO.of h
theorem qZ.fresh{rb H k:Nat}{vC vT v':ai}(hk:v'.ownBlock=vT.ownBlock\/v'.ownBlock=some H)(qK:k<H)(h:qZ rb vC v' k):qZ rb vC vT k:=by
 rcases h with h|h|h
 .exact .inl h
 .exact ayp
 .rcases hk with e|e
  .exact .inr (.inr (e▸h))
  .rw[e]at h;cases h;omega
theorem Pt.YV{w w':ah}{rb cp n:Nat}{ad:Addr}{vC vT v':ai}{p:ak}(hcp:p.length<=cp)(hM:0<p.length->¬qZ rb vC vT ad.block)(hcell:∀j,j<p.length->w.cell? (ad.add j)=some (.int .u8 (tZ p j:Int)))(hn:n<=p.length)(hb:rQ w.heap.size (qZ rb vC vT) w w')(hk:v'.ownBlock=vT.ownBlock\/v'.ownBlock=some w.heap.size):
  Pt w' (qZ rb vC v') (.slice (if cp=n then some ad else(some ad).map (·.add n)) (p.length-n) (cp-n)) (p.drop n):=by
 have h0:Pt w (qZ rb vC vT) (.slice (some ad) p.length cp) p:=.inr ⟨ad,cp,rfl,hcp,hM,hcell⟩;have h1:=h0.later hb (λ_ x=>x) (λk WA x=>qZ.fresh hk WA x);rcases h1 with⟨e,_⟩|⟨ad',cp',e,h2,h3,h4⟩
 .cases e
 .injection e with e1 e2 e3;injection e1 with e1;subst e1 e3;exact Pt.cut h2 h3 h4 hn
def VX(B:Nat)(w:ah)(rb:Nat)(s:St)(t p:ak)(vN vS vC vT:ai)(q:Ending)(w':ah):Prop:=
 ∃v' DW,q=.returned v'/\Pt w' (qZ rb vC DW) v' (p.drop (s.sz-t.length))/\RI B w' rb s (t++p.take (s.sz-t.length)) vN vS vC DW/\rQ w.heap.size (qZ rb vC vT) w w'/\(DW.ownBlock=vT.ownBlock\/∃g,DW.ownBlock=some g/\w.heap.size<=g)
section
variable (B rb:Nat)(s:St)(t p:ak)(vN vS vC vT vp:ai)(hb:Bd s)(Ox:s.nx<=3)(ht:t.length<=s.sz)(hp:p.length<=4611686018427387904)(w:ah)(I:RI B w rb s t vN vS vC vT)(hP:Pt w (qZ rb vC vT) vp p)
include hb Ox ht hp I hP in
theorem akH:Calls prog 121 #[.pointer (some ⟨rb,0,none⟩),vp] w λq w'=>VX B w rb s t p vN vS vC vT q w':=by
 obtain⟨bc,cc,eC,hcc⟩:=I.oc.slice;obtain⟨bt,ct,eT,BD⟩:=I.ot.slice;subst eT;have KS:=λn=>WJ rb (s.rd vN vS vC (.slice bt t.length ct) .nilIface) bc s.qH.length cc eC ng nz ni hb.qH Ox (w.drewN n) I.rd
 have hsz:yT s.nx s.c s.m s.ln s.qH.length=s.sz:=rfl;simp only[St.rd,hsz]at KS;unfold VX;have hz:=St.YT hb;obtain⟨z,ez⟩:∃z,s.sz=z:=⟨_,rfl⟩;rw[ez]at ht hz;simp only[ez]at KS⊢;have c12:w.cell? ⟨rb,12,none⟩=some (.slice bt t.length ct):=ql.cell I.rd (i:=12) rfl;have f12:=ql.frozen I.rd 12
 obtain⟨n,hn1,hn2⟩:∃n:Nat,((p.length:Int)<(z:Int)-(t.length:Int)/\n=p.length\/(z:Int)-(t.length:Int)<=(p.length:Int)/\n+t.length=z)/\n<=p.length:=by
  rcases bJ p.length (z-t.length)with h|h
  .exact⟨p.length,.inl ⟨ag,rfl⟩,az _⟩
  .exact⟨z-t.length,.inr ⟨ag,ag⟩,h⟩
 have aon:p.drop (z-t.length)=p.drop n:=by
  rcases hn1 with⟨h1,h2⟩|⟨h1,h2⟩
  .rw[pJ ag,pJ ag]
  .rw[show z-t.length=n by omega]
 have af2:p.take (z-t.length)=p.take n:=by
  rcases hn1 with⟨h1,h2⟩|⟨h1,h2⟩
  .rw[jg ag,jg ag]
  .rw[show z-t.length=n by omega]
 rw[aon,af2]
 have K:∀j,Calls prog 129 #[.pointer (some ⟨rb,0,none⟩)] (w.drewN j) λq w'=>q=.returned (.int .i64 (z:Int))/\∃n,w'=w.drewN n:=λj=>
  (KS j).mono λq w' x=>⟨x.1,by obtain⟨i,hi⟩:=x.2;exact⟨j+i,awJ⟩⟩
 obtain⟨i0,Ak,yz,xA,wH⟩:=dm BJ;have Y9:t.length<=400000:=ag;have hnz:n<=400000:=ag;have avd:IntKind.i64.wrap ((z:Int)-(t.length:Int))=(z:Int)-(t.length:Int):=fM _ ag;have hBs:=I.size;clear KS ez hsz aon af2;rcases hP with⟨rfl,rfl⟩|⟨ad,cp,rfl,hcp,hM,hcell⟩
 .obtain rfl:n=0:=by simpa using hn2
  have sh:=VW none 0 0 0 0 rfl ag;have sl:=acA none 0 0 0 0 rfl ag;simp only[aX]at sl;have hot:=I.ot;unfold rO at hot;have hq:(0:Int)<=(z:Int)-(t.length:Int):=ag;have hJ:∀j,rQ w.heap.size (qZ rb vC (.slice bt t.length ct)) w ((w.drewN j).setCell ⟨rb,12,none⟩ (.slice bt t.length ct)):=λj=>((rQ.refl w.heap.size _ w).drewN j).setCell (p:=⟨rb,12,none⟩) (.inr (.inl rfl)) _
  have JN:=λj=>RI.text (w1:=w.drewN j) (x:=[]) I (by have:=I.ot;rw[d_];exact this) ⟨rfl,rfl,rfl,az _,λ_ _ _=>rfl⟩ (.inl rfl)
  clear hn1;rcases nS 0 ((z:Int)-(t.length:Int))with h1|h1
  all_goals
   try(have h1':(z:Int)-(t.length:Int)=0:=by omega)
   go_enter func121,ntmps121
   go_wp2_with fail
   go_big_quiet (first|(go_at_call 129;exact(K _).mono (λ_ _ h=>⟨h.1,h.2⟩)))
   go_wp2_with fail
   go_region_law ((refine Ua rfl _ _ 34 rfl B 5 i0 1 underlying34 Ak _ _ _ rfl avE rfl ?_))
   go_wp2;go_ret;exact⟨_,_,rfl,.inl ⟨rfl,rfl⟩,(JN _).1,hJ _,.inl rfl⟩
 .have sh:=VW (some ad) p.length cp (n:Int) n rfl ag;have sl:=acA (some ad) p.length cp (n:Int) n rfl hn2;obtain⟨ra,era⟩:∃ra,(if cp=n then some ad else(some ad).map (·.add n))=ra:=⟨_,rfl⟩;simp only[era]at sl;have htk:(p.take n).length=n:=aS
  have Wv:∀j u,(sJ (p.take n))[j]?=some u->w.cell? (ad.add j)=some u:=by intro j u hj;obtain⟨h1,rfl⟩:=VV hj;rw[htk]at h1;rw[hcell j ag];simp[tZ,h1]
  have hot:=I.ot;unfold rO at hot;rcases hn1 with⟨h1,h2⟩|⟨h1,h2⟩
  .subst h2;go_enter func121,ntmps121
   go_wp2_with fail
   go_big_quiet (first|(go_at_call 129;exact(K _).mono (λ_ _ h=>⟨h.1,h.2⟩)))
   go_wp2_with fail
   go_region_law ((refine Ky rfl _ _ 34 rfl B 5 i0 (.int .u8 0) 1 1 underlying34 Ak yz xA wH rfl aC _ _ _ rfl avE ad p.length cp (sJ (p.take p.length)) rfl (by rw[sZ,htk];omega) (by exact Wv) (FO _) dB ag (by exact hBs) ?_;intro v2 w2 zh xW BA;have ow:=aaB zh;obtain⟨b2,c2,rfl,Wq⟩:=ow.slice;obtain⟨J,hJ,x12,y12⟩:=RI.text ((I.drewN _).drew) ow xW BA))
   go_wp2;go_ret;have e2:(t++p.take p.length).length=t.length+p.length:=by rw[bK,htk]
   rw[e2]at J hJ BA;have hJ':rQ w.heap.size (qZ rb vC (.slice bt t.length ct)) w _:=((rQ.refl w.heap.size _ w).drewN (nq+1)).trans hJ;have hpt:=Pt.YV hcp hM hcell hn2 hJ' BA;rw[era,lL]at hpt;exact ay1
  .have h3:(z:Int)-(t.length:Int)=(n:Int):=ag;have h1':(n:Int)<=(p.length:Int):=ag;clear h1 h2;go_enter func121,ntmps121
   go_wp2_with fail
   go_big_quiet (first|(go_at_call 129;exact(K _).mono (λ_ _ h=>⟨h.1,h.2⟩)))
   go_wp2_with fail
   go_region_law ((refine Ky rfl _ _ 34 rfl B 5 i0 (.int .u8 0) 1 1 underlying34 Ak yz xA wH rfl aC _ _ _ rfl avE ad n cp (sJ (p.take n)) rfl (by rw[sZ,htk];omega) (by exact Wv) (FO _) dB ag (by exact hBs) ?_;intro v2 w2 zh xW BA;have ow:=aaB zh;obtain⟨b2,c2,rfl,Wq⟩:=ow.slice;obtain⟨J,hJ,x12,y12⟩:=RI.text ((I.drewN _).drew) ow xW BA))
   go_wp2;go_ret;have e2:(t++p.take n).length=t.length+n:=by rw[bK,htk]
   rw[e2]at J hJ BA;have hJ':rQ w.heap.size (qZ rb vC (.slice bt t.length ct)) w _:=((rQ.refl w.heap.size _ w).drewN (nq+1)).trans hJ;have hpt:=Pt.YV hcp hM hcell hn2 hJ' BA;rw[era]at hpt;exact ay1
end
theorem rO.none{B:Nat}{w:ah}{bt:aY}{n ct:Nat}{l:ak}(h:rO B w (.slice bt n ct) l):rO B w (.slice bt 0 ct) []:=by
 unfold rO at*;refine⟨eX,?_⟩;rcases h.2 with⟨e,h0⟩|⟨g,c,cur,e,hg,hh,hc,hm,hs,_⟩
 .cases e;exact .inl ⟨rfl,rfl⟩
 .cases e;exact .inr ⟨g,ct,cur,rfl,hg,hh,gY _,hm,hs,eX⟩
theorem RI.put{B rb i:Nat}{w:ah}{s s':St}{t t':ak}{vN vS vC vT DW u:ai}(I:RI B w rb s t vN vS vC vT)(h:(s.rd vN vS vC vT .nilIface).cells.set i u=(s'.rd vN vS vC DW .nilIface).cells)(h1:s'.ns=s.ns)(h2:s'.zs=s.zs)(h3:s'.qH=s.qH)(hT:rO B w DW t')(hk:DW.ownBlock=vT.ownBlock):RI B (w.setCell ⟨rb,i,none⟩ u) rb s' t' vN vS vC DW:=by
 refine⟨?_,?_,?_,?_,?_,?_,?_⟩
 .have:=ql.set I.rd i u;unfold yw;rw[<-h];exact this
 .rw[h1];exact uZ I.on (uM I.on I.rd aC)
 .rw[h2];exact uZ I.os (uM I.os I.rd aC)
 .rw[h3];exact uZ I.oc (uM I.oc I.rd aC)
 .exact uZ hT (uM hT I.rd aC)
 .intro g Tf Ue;exact I.ap g Tf (hk▸Ue)
 .have:=I.size;exact ayh
section
variable (B rb:Nat)(s:St)(t:ak)(vN vS vC vT:ai)(hb:Bd s)(ht:t.length<=400000)(w:ah)(I:RI B w rb s t vN vS vC vT)
def acC(B:Nat)(w:ah)(rb:Nat)(s:St)(t:ak)(vN vS vC vT:ai)(q:Ending)(w':ah):Prop:=
 q=.returned (.tuple #[])/\∃DW,RI B w' rb (tV s t) [] vN vS vC DW/\rQ w.heap.size (· =rb) w w'/\DW.ownBlock=vT.ownBlock
include hb ht I in
theorem aex:Calls prog 123 #[.pointer (some ⟨rb,0,none⟩)] w λq w'=>acC B w rb s t vN vS vC vT q w':=by
 obtain⟨bc,cc,eC,hcc⟩:=I.oc.slice;obtain⟨bt,ct,eT,BD⟩:=I.ot.slice;subst eT;subst eC;have vY:=hb.pl;have Me:=hb.ln;have c6:=ql.cell I.rd (i:=6) rfl;have c8:=ql.cell I.rd (i:=8) rfl;have XY:=ql.cell I.rd (i:=10) rfl;have Uz:=ql.cell I.rd (i:=11) rfl;have c12:=ql.cell I.rd (i:=12) rfl;have f10:=ql.frozen I.rd 10;have f11:=ql.frozen I.rd 11;have f12:=ql.frozen I.rd 12;simp only[St.rd]at c6 c8 XY Uz c12;have sh:=VW bt t.length ct 0 0 rfl ag;have Ox:=hb.nx;obtain⟨nx,enx⟩:∃nx,s.nx=nx:=⟨_,rfl⟩;obtain⟨pl,XJ⟩:∃pl,s.pl=pl:=⟨_,rfl⟩;obtain⟨ln,eln⟩:∃ln,s.ln=ln:=⟨_,rfl⟩;have Zc:IntKind.i64.wrap ((pl:Int)+(t.length:Int))=(pl:Int)+(t.length:Int):=fM _ ag;rw[enx]at XY Ox;rw[XJ]at Uz vY;rw[eln]at c8 Me;have I1:RI B (w.setCell ⟨rb,11,none⟩ (.int .i64 ((pl:Int)+(t.length:Int)))).drew rb {s with pl:=pl+t.length} t vN vS _ _:=(I.put (s':={s with pl:=pl+t.length}) (t':=t) rfl rfl rfl rfl I.ot rfl).drew;have I8:rQ w.heap.size (· =rb) w (w.setCell ⟨rb,11,none⟩ (.int .i64 ((pl:Int)+(t.length:Int)))).drew:=((rQ.refl w.heap.size (· =rb) w).setCell (p:=⟨rb,11,none⟩) (.inr rfl) _).drew;have HM:Hid ((tV s t)={s with pl:=pl+t.length,nx:=x_ s}):=by show _=_;unfold tV;rw[XJ]
 go_enter func123,ntmps123
 go_wp2_with fail
 refine Dk 12 mixed aj ?_;simp only[pg,lT,pI,l9]
 repeat (first|go_big_quiet_skip|(go_big_quiet_want;go_big_quiet_op;go_big_quiet_on))
 refine wpQuiet_nil ?_
 go_upto_region 1 with(fail)
 clear c6 c8 XY Uz c12 f10 f11 f12 I;generalize(w.setCell ⟨rb,11,none⟩ (.int .i64 ((pl:Int)+(t.length:Int)))).drew=w1 at I1 I8⊢;have I2:RI B _ rb {s with pl:=pl+t.length} [] vN vS _ _:=I1.put (i:=12) (u:=.slice bt 0 ct) (s':={s with pl:=pl+t.length}) (t':=[]) (DW:=.slice bt 0 ct) rfl rfl rfl rfl I1.ot.none (by cases bt<;>rfl);have Ap:=I8.setCell (p:=⟨rb,12,none⟩) (.inr rfl) (.slice bt 0 ct);have c12:=ql.cell I1.rd (i:=12) rfl;have f12:=ql.frozen I1.rd 12;simp only[St.rd]at c12
 go_upto_region 3 with(fail)
 clear c12 f12 I1 I8;generalize w1.setCell ⟨rb,12,none⟩ (.slice bt 0 ct)=w2 at I2 Ap⊢;have c6:=ql.cell I2.rd (i:=6) rfl;have c8:=ql.cell I2.rd (i:=8) rfl;have XY:=ql.cell I2.rd (i:=10) rfl;have f10:=ql.frozen I2.rd 10;simp only[St.rd]at c6 c8 XY;rw[enx]at XY;rw[eln]at c8;have J0:∀(x j:Nat),RI B ((w2.drewN j).setCell ⟨rb,10,none⟩ (.int .i64 (x:Int))) rb {s with pl:=pl+t.length,nx:=x} [] vN vS _ _:=λx j=>(I2.drewN j).put (s':={s with pl:=pl+t.length,nx:=x}) (t':=[]) (DW:=.slice bt 0 ct) rfl rfl rfl rfl I2.ot rfl
 have hBB:∀(j:Nat)(u:ai),rQ w.heap.size (· =rb) w ((w2.drewN j).setCell ⟨rb,10,none⟩ u):=λj u=>(Ap.drewN j).setCell (p:=⟨rb,10,none⟩) (.inr rfl) u
 by_cases q0:nx=0
 .have HX:Hid (x_ s=1):=by show _=_;unfold x_;rw[enx,ay q0]
  subst q0;go_wp2;go_end0;refine⟨rfl,.slice bt 0 ct,?_,hBB 0 _,by cases bt<;>rfl⟩;rw[HM.out,HX.out];exact J0 1 0
 .have q0':((nx:Int)==0)=false:=aS;by_cases q3:nx=3
  .have HX:Hid (x_ s=4):=by show _=_;unfold x_;rw[enx,au q0,ay q3]
   subst q3;go_wp2;go_end0;refine⟨rfl,.slice bt 0 ct,?_,hBB 0 _,by cases bt<;>rfl⟩;rw[HM.out,HX.out];exact J0 4 0
  .have q3':((nx:Int)==3)=false:=aS;by_cases q5:s.qH.length<ln
   .have HX:Hid (x_ s=2):=by show _=_;unfold x_;rw[enx,eln,au q0,au q3,ay q5]
    go_wp2_with fail
    go_big_quiet (fail)
    go_wp2;go_end0;refine⟨rfl,.slice bt 0 ct,?_,hBB _ _,by cases bt<;>rfl⟩;rw[HM.out,HX.out];exact J0 2 _
   .have HX:Hid (x_ s=3):=by show _=_;unfold x_;rw[enx,eln,au q0,au q3,au q5]
    go_wp2_with fail
    go_big_quiet (fail)
    go_wp2;go_end0;refine⟨rfl,.slice bt 0 ct,?_,hBB _ _,by cases bt<;>rfl⟩;rw[HM.out,HX.out];exact J0 3 _
end
theorem PR{t:ak}{n:Nat}:∀(m j:Nat)(i:Nat),i+m<=n->le (part t j n) i m=le t (j+i) m
 |0,_,_,_=>rfl
 |m+1,j,i,h=>by show tZ (part t j n) i+256*le (part t j n) (i+1) m=tZ t (j+i)+256*le t (j+i+1) m;rw[vI ag,PR m j (i+1) ag,dW]
theorem Dl(bx b off ct:Nat)(u:ak)(hu:u.length=24)(BD:24<=ct)(A N:Int)(a n:Nat)(hA:A=a)(hN:N=n)(hn:n<=4)(ha:a+n<=24)(ha2:a<24)(w:ah)(h:w.cell? ⟨bx,0,none⟩=some (.slice (some ⟨b,off,none⟩) 24 ct))(hB:Dv w b off u):
  Calls prog 142 #[.int .i64 A,.int .i64 N,.pointer (some ⟨bx,0,none⟩)] w λq w'=>q=.returned (.int .i64 (le u a n:Nat))/\w'=w:=by
 subst hA hN;have hP:(part u a n).length=n:=qN ag;have K:=λcap=>xy b (off+a) n cap (part u a n) hP ag w (hB.part ag)
 have hle:le (part u a n) 0 n=le u a n:=PR n a 0 ag;have qK:le u a n<2^32:=bG (SY u n a) axw;rw[hle]at K;obtain⟨y,ey⟩:∃y,le u a n=y:=⟨_,rfl⟩;rw[ey]at K qK⊢;have sl:=Aj b off 24 ct (a:Int) ((a:Int)+(n:Int)) a (a+n) rfl ax ag ag ag;rw[show a+n-a=n by omega]at sl;clear ey hle hP hB hu;go_enter func142,ntmps142
 go_wp2_with(first|(go_at_call 141;refine(K _).mono ?_;rintro q w' ⟨rfl,uf⟩;obtain rfl:=uf.symm))
 exact ayo
def Rd.nums(r:Rd)(u:ak):Rd:={r with k:=le u 6 1,n:=le u 7 1,i:=le u 8 1,c:=le u 10 4,m:=le u 14 4,ln:=le u 18 4}
def acD(w:ah)(rb:Nat)(r:Rd)(u:ak)(q:Ending)(w':ah):Prop:=
 rQ w.heap.size (· =rb) w w'/\yw w' rb (r.nums u)/\match vZ (zQ u)with
  |some p=>∃v,q=.returned v/\sV w' 0 v 1 p
  |none=>q=.returned .nilIface
theorem Rh{w w3 w':ah}{rb:Nat}{R:Rd}(hA:rQ w.heap.size (· =rb) w w3)(hR:yw w3 rb R)(hb:Below w3.heap.size w3 w'):rQ w.heap.size (· =rb) w w'/\yw w' rb R:=
 ⟨hA.trans (.qF (hb.mono hA.size)),ql.later hR (S:=λ_=>False) (.qF hb) (ql.lt hR) id⟩
def Ri(u:ak):aK:=[.int .i64 6,.int .i64 (le u 6 1:Nat),.int .i64 1,.int .i64 128,.int .i64 7,.int .i64 (le u 7 1:Nat),.int .i64 (le u 6 1:Nat),.int .i64 128,.int .i64 8,.int .i64 (le u 8 1:Nat),.int .i64 0,.int .i64 ((le u 7 1:Nat)-1),.int .i64 9,.int .i64 (le u 9 1:Nat),.int .i64 0,.int .i64 0,.int .i64 10,.int .i64 (le u 10 4:Nat),.int .i64 1,.int .i64 65536,.int .i64 14,.int .i64 (le u 14 4:Nat),.int .i64 4,.int .i64 300000,.int .i64 18,.int .i64 (le u 18 4:Nat),.int .i64 0,.int .i64 65536,.int .i64 22,.int .i64 (le u 22 2:Nat),.int .i64 0,.int .i64 0]
section
variable (rb:Nat)(r:Rd)(u:ak)(b off ct:Nat)(hu:u.length=24)(BD:24<=ct)(hbr:b≠rb)(w:ah)(h:yw w rb r)(hB:Dv w b off u)
include hu BD hbr h hB in
theorem Ub:
  Calls prog 136 #[.pointer (some ⟨rb,0,none⟩),.slice (some ⟨b,off,none⟩) 24 ct] w λq w'=>acD w rb r u q w':=by
 have hrb:=ql.lt h;have WR:b<w.heap.size:=rG (hB 0 ag);have hA:=(rQ.refl w.heap.size (· =rb) w).alloc (az _) (.cells #[Value.slice (some ⟨b,off,none⟩) 24 ct] 34);have AL:ql (w.alloc (.cells #[Value.slice (some ⟨b,off,none⟩) 24 ct] 34)) w.heap.size [.slice (some ⟨b,off,none⟩) 24 ct] 34:=ql.made w _ _
 have hR0:yw (w.alloc (.cells #[Value.slice (some ⟨b,off,none⟩) 24 ct] 34)) rb r:=by unfold yw ql at*;rw[dI w _ rb hrb];exact h
 have Jj:=hB.later hA WR hbr;have hN:∀a n,n<=4->le u a n<2^32:=λa n hn=>bG (SY u n a) axw
 go_enter func136,ntmps136
 go_upto_region 3 with(fail)
 obtain⟨bx,ebx⟩:∃bx,w.heap.size=bx:=⟨_,rfl⟩;have hxr:bx≠rb:=ag;have hxb:bx≠b:=ag;rw[ebx]at AL⊢;have EB:Hid (w.heap.size=bx):=ebx;clear ebx h hB;generalize w.alloc (.cells #[Value.slice (some ⟨b,off,none⟩) 24 ct] 34)=w0 at hA AL hR0 Jj⊢;have f0:=ql.frozen hR0;have c0:=ql.cell hR0 (i:=0) rfl;have c1:=ql.cell hR0 (i:=1) rfl;have c2:=ql.cell hR0 (i:=2) rfl;have c3:=ql.cell hR0 (i:=3) rfl
 go_upto_region 4 with(first|(go_at_call 142;refine(Dl _ b off ct u hu BD _ _ 6 1 aI aI ag ag ag _ avH avG).mono ?_;rintro q w' ⟨rfl,uf⟩;obtain rfl:=uf.symm)|(go_at_call 142;refine(Dl _ b off ct u hu BD _ _ 7 1 aI aI ag ag ag _ avH avG).mono ?_;rintro q w' ⟨rfl,uf⟩;obtain rfl:=uf.symm)|(go_at_call 142;refine(Dl _ b off ct u hu BD _ _ 8 1 aI aI ag ag ag _ avH avG).mono ?_;rintro q w' ⟨rfl,uf⟩;obtain rfl:=uf.symm)|(go_at_call 142;refine(Dl _ b off ct u hu BD _ _ 10 4 aI aI ag ag ag _ avH avG).mono ?_;rintro q w' ⟨rfl,uf⟩;obtain rfl:=uf.symm))
 have Tt:yw _ rb {r with k:=le u 6 1,n:=le u 7 1,i:=le u 8 1,c:=le u 10 4}:=(((ql.set hR0 0 (.int .i64 (le u 6 1:Nat))).set 1 (.int .i64 (le u 7 1:Nat))).set 2 (.int .i64 (le u 8 1:Nat))).set 3 (.int .i64 (le u 10 4:Nat));have Qb:rQ w.heap.size (· =rb) w _:=(((hA.setCell (p:=⟨rb,0,none⟩) (.inr rfl) (.int .i64 (le u 6 1:Nat))).setCell (p:=⟨rb,1,none⟩) (.inr rfl) (.int .i64 (le u 7 1:Nat))).setCell (p:=⟨rb,2,none⟩) (.inr rfl) (.int .i64 (le u 8 1:Nat))).setCell (p:=⟨rb,3,none⟩) (.inr rfl) (.int .i64 (le u 10 4:Nat));have hAA:rQ w0.heap.size (· =rb) w0 _:=((((rQ.refl w0.heap.size (· =rb) w0).setCell (p:=⟨rb,0,none⟩) (.inr rfl) (.int .i64 (le u 6 1:Nat))).setCell (p:=⟨rb,1,none⟩) (.inr rfl) (.int .i64 (le u 7 1:Nat))).setCell (p:=⟨rb,2,none⟩) (.inr rfl) (.int .i64 (le u 8 1:Nat))).setCell (p:=⟨rb,3,none⟩) (.inr rfl) (.int .i64 (le u 10 4:Nat));have Gy:=AL.later hAA AL.lt hxr;have I8:=Jj.later hAA (rG (Jj 0 ag)) hbr;clear hAA hA AL Jj hR0 f0 c0 c1 c2 c3;generalize(((w0.setCell ⟨rb,0,none⟩ (.int .i64 (le u 6 1:Nat))).setCell ⟨rb,1,none⟩ (.int .i64 (le u 7 1:Nat))).setCell ⟨rb,2,none⟩ (.int .i64 (le u 8 1:Nat))).setCell ⟨rb,3,none⟩ (.int .i64 (le u 10 4:Nat))=w1 at Qb Gy Tt I8⊢;have f0:=ql.frozen Tt;have c7:=ql.cell Tt (i:=7) rfl;have c8:=ql.cell Tt (i:=8) rfl
 go_upto_region 5 with(first|(go_at_call 142;refine(Dl _ b off ct u hu BD _ _ 14 4 aI aI ag ag ag _ (by exact Gy.cell rfl) (by exact I8)).mono ?_;rintro q w' ⟨rfl,uf⟩;obtain rfl:=uf.symm)|(go_at_call 142;refine(Dl _ b off ct u hu BD _ _ 18 4 aI aI ag ag ag _ (by exact Gy.cell rfl) (by exact I8)).mono ?_;rintro q w' ⟨rfl,uf⟩;obtain rfl:=uf.symm))
 have Fz:yw _ rb (r.nums u):=((ql.set Tt 7 (.int .i64 (le u 14 4:Nat))).set 8 (.int .i64 (le u 18 4:Nat)));have Oo:rQ w.heap.size (· =rb) w _:=(Qb.setCell (p:=⟨rb,7,none⟩) (.inr rfl) (.int .i64 (le u 14 4:Nat))).setCell (p:=⟨rb,8,none⟩) (.inr rfl) (.int .i64 (le u 18 4:Nat));have hAA:rQ w1.heap.size (· =rb) w1 _:=((rQ.refl w1.heap.size (· =rb) w1).setCell (p:=⟨rb,7,none⟩) (.inr rfl) (.int .i64 (le u 14 4:Nat))).setCell (p:=⟨rb,8,none⟩) (.inr rfl) (.int .i64 (le u 18 4:Nat));have Ug:=Gy.later hAA Gy.lt hxr;have Ap:=I8.later hAA (rG (I8 0 ag)) hbr;clear hAA Qb Gy I8 Tt f0 c7 c8;generalize(w1.setCell ⟨rb,7,none⟩ (.int .i64 (le u 14 4:Nat))).setCell ⟨rb,8,none⟩ (.int .i64 (le u 18 4:Nat))=w2 at Oo Ug Fz Ap⊢;have c0:=ql.cell Fz (i:=0) rfl;have c1:=ql.cell Fz (i:=1) rfl;have c2:=ql.cell Fz (i:=2) rfl;have c3:=ql.cell Fz (i:=3) rfl;have c7:=ql.cell Fz (i:=7) rfl;have c8:=ql.cell Fz (i:=8) rfl;simp only[Rd.nums]at c0 c1 c2 c3 c7 c8;have K9:=Dl _ b off ct u hu BD 9 1 9 1 rfl rfl ag ag ag w2.drew (show w2.drew.cell? _=_ from Ug.cell rfl) (show Dv w2.drew b off u from Ap);have K22:=Dl _ b off ct u hu BD 22 2 22 2 rfl rfl ag ag ag w2.drew (show w2.drew.cell? _=_ from Ug.cell rfl) (show Dv w2.drew b off u from Ap);have h7:=hN 7 1 ag;have HM:Hid _:=hN;clear hN
 go_region_held3 (λw'=>w'.cell? ⟨rb,0,none⟩=some (.int .i64 (le u 6 1:Nat))/\w'.cell? ⟨rb,1,none⟩=some (.int .i64 (le u 7 1:Nat))/\w'.cell? ⟨rb,2,none⟩=some (.int .i64 (le u 8 1:Nat))/\w'.cell? ⟨rb,3,none⟩=some (.int .i64 (le u 10 4:Nat))/\w'.cell? ⟨rb,7,none⟩=some (.int .i64 (le u 14 4:Nat))/\w'.cell? ⟨rb,8,none⟩=some (.int .i64 (le u 18 4:Nat))) (go_keep)
  (first|(go_at_call 142;with_reducible refine K9.mono ?_;rintro e w' ⟨rfl,uf⟩;obtain rfl:=uf.symm)|(go_at_call 142;with_reducible refine K22.mono ?_;rintro e w' ⟨rfl,uf⟩;obtain rfl:=uf.symm))
 have Zc:IntKind.i64.wrap ((le u 7 1:Nat)-1:Int)=(le u 7 1:Nat)-1:=fM _ ag;rw[Zc];clear Zc K9 K22 c0 c1 c2 c3 c7 c8;have Qn:rQ w.heap.size (· =rb) w _:=(Oo.alloc (by have:=Oo.size;omega) (.cells (Ri u).toArray 226)).drew
 have WN:yw ((w2.alloc (.cells (Ri u).toArray 226)).drew) rb (r.nums u):=by have:=ql.later Fz (S:=λ_=>False) ((rQ.refl w2.heap.size _ w2).alloc (az _) (.cells (Ri u).toArray 226)) (ql.lt Fz) id;exact this
 have Je:ql ((w2.alloc (.cells (Ri u).toArray 226)).drew) w2.heap.size (Ri u) 226:=ql.made w2 _ _;unfold Ri at Qn WN Je;obtain⟨g,eg⟩:∃g,w2.heap.size=g:=⟨_,rfl⟩;rw[eg]at Je⊢;generalize(w2.alloc _).drew=w3 at Qn WN Je⊢;clear Oo Fz Ug Ap eg
 have Uf:∀c,c<8->∃(p v:Nat)(lo hi:Int),(zQ u).drop c=(p,v,lo,hi)::(zQ u).drop (c+1)/\w3.cell? ⟨g,c*4,none⟩=some (.int .i64 (p:Int))/\w3.cell? ⟨g,c*4+1,none⟩=some (.int .i64 (v:Int))/\w3.cell? ⟨g,c*4+2,none⟩=some (.int .i64 lo)/\w3.cell? ⟨g,c*4+3,none⟩=some (.int .i64 hi):=by
  intro c hc
  match c,hc with
  |0,_=>exact⟨6,_,_,_,rfl,Je.cell rfl,Je.cell rfl,Je.cell rfl,Je.cell rfl⟩
  |1,_=>exact⟨7,_,_,_,rfl,Je.cell rfl,Je.cell rfl,Je.cell rfl,Je.cell rfl⟩
  |2,_=>exact⟨8,_,_,_,rfl,Je.cell rfl,Je.cell rfl,Je.cell rfl,Je.cell rfl⟩
  |3,_=>exact⟨9,_,_,_,rfl,Je.cell rfl,Je.cell rfl,Je.cell rfl,Je.cell rfl⟩
  |4,_=>exact⟨10,_,_,_,rfl,Je.cell rfl,Je.cell rfl,Je.cell rfl,Je.cell rfl⟩
  |5,_=>exact⟨14,_,_,_,rfl,Je.cell rfl,Je.cell rfl,Je.cell rfl,Je.cell rfl⟩
  |6,_=>exact⟨18,_,_,_,rfl,Je.cell rfl,Je.cell rfl,Je.cell rfl,Je.cell rfl⟩
  |7,_=>exact⟨22,_,_,_,rfl,Je.cell rfl,Je.cell rfl,Je.cell rfl,Je.cell rfl⟩
 have hg3:g<w3.heap.size:=Je.lt;clear Je h7 HM hu BD hbr;go_wp2
 go_loopw [90] (λvi wr=>∃c:Nat,c<=8/\vi=.int .i64 (c:Int)/\Below w3.heap.size w3 wr/\Hid (vZ (zQ u)=vZ ((zQ u).drop c))) (λi _=>8-(intOf i).toNat)
 case atStart=>exact⟨0,ag,rfl,aT _ _,rfl⟩
 case round=>
  obtain⟨c,hc,rfl,hb,H⟩:=hrel;by_cases qK:c<8
  .obtain⟨p,v,lo,hi,e1,d0,d1,d2,d3⟩:=Uf c qK
   have H2:Hid (vZ (zQ u)=if(v:Int)<lo\/hi<(v:Int)then some p else vZ ((zQ u).drop (c+1))):=by show _=_;rw[H.out,e1];rfl
   rw[<-hb.cell (p:=⟨g,c*4,none⟩) hg3]at d0;rw[<-hb.cell (p:=⟨g,c*4+1,none⟩) hg3]at d1;rw[<-hb.cell (p:=⟨g,c*4+2,none⟩) hg3]at d2;rw[<-hb.cell (p:=⟨g,c*4+3,none⟩) hg3]at d3;clear Uf e1 H;by_cases q1:(v:Int)<lo
   .have HB:Hid (vZ (zQ u)=some p):=by show _=_;rw[H2.out,ay (.inl q1)]
    go_wp2_with(first|(go_at_call 64;refine(A8 _ _ 1 p aI aI _).mono ?_;rintro q w5 ⟨v5,rfl,g1,g2⟩))
    exact ay4
   .by_cases q2:hi<(v:Int)
    .have HB:Hid (vZ (zQ u)=some p):=by show _=_;rw[H2.out,ay (.inr q2)]
     go_wp2_with(first|(go_at_call 64;refine(A8 _ _ 1 p aI aI _).mono ?_;rintro q w5 ⟨v5,rfl,g1,g2⟩))
     exact ay4
    .have HB:Hid (vZ (zQ u)=vZ ((zQ u).drop (c+1))):=by
      show _=_;rw[H2.out,au ag]
     clear H2;go_wp2
     go_roundw
     case rel=>exact⟨c+1,ag,bU,by first|exact hb.alloc hb.size _|exact(hb.alloc hb.size _).setCell awh _,HB⟩
     case measure=>simp[intOf];omega
  .obtain rfl:c=8:=ag;have HB:Hid (vZ (zQ u)=none):=H;clear Uf;go_wp2;go_ret;obtain⟨z1,z2⟩:=Rh Qn WN hb;refine⟨z1,z2,?_⟩;rw[HB.out];exact rfl
