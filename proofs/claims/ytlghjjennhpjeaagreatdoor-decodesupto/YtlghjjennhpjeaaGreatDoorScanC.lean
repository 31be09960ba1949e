import Derived.Test.YtlghjjennhpjeaaGreatDoorSvD
import Derived.Deep.AppendLies
import Derived.Lib.OwnKind
import Derived.Deep.Onto
import Derived.BigQuiet
import Derived.Deep.RegionLaw
set_option maxHeartbeats 1600000
set_option maxRecDepth 100000
namespace Go.Hp
theorem ake(a b:UInt8):(a<b/\¬b<a/\a≠b)\/(b<a/\¬a<b/\a≠b)\/(a=b/\¬a<b/\¬b<a):=by
 rcases auL a.toNat b.toNat with h|h|h
 .refine .inl ⟨iZ.2 h,λh'=>?_,λe=>?_⟩
  .have:=iZ.1 h';omega
  .subst e;omega
 .have e:a=b:=auF.1 h;subst e;exact .inr (.inr ⟨rfl,λh'=>aw4,λh'=>aw4⟩)
 .refine .inr (.inl ⟨iZ.2 h,λh'=>?_,λe=>?_⟩)
  .have:=iZ.1 h';omega
  .subst e;omega
abbrev lt(a b:aj):Bool:=Op.bytesLess a b
theorem lt_irrefl:∀a:aj,lt a a=false
 |[]=>rfl
 |x::a=>by have h:=ake x x;simp only[lt,Op.bytesLess]at*;have:=lt_irrefl a;simp only[lt]at this;simp[this]
theorem Jk:∀a b:aj,(lt a b=true/\lt b a=false/\a≠b)\/(lt b a=true/\lt a b=false/\a≠b)\/(a=b/\lt a b=false/\lt b a=false)
 |[],[]=>.inr (.inr ⟨rfl,rfl,rfl⟩)
 |[],y::b=>.inl ⟨rfl,rfl,aA⟩
 |x::a,[]=>.inr (.inl ⟨rfl,rfl,aA⟩)
 |x::a,y::b=>by
  simp only[lt,Op.bytesLess];rcases ake x y with⟨h1,h2,h3⟩|⟨h1,h2,h3⟩|⟨rfl,h2,_⟩
  .exact .inl ⟨by simp[h1],by simp[h2,dE h3],by simp[h3]⟩
  .exact .inr (.inl ⟨by simp[h1],by simp[h2,h3],by simp[h3]⟩)
  .rcases Jk a b with⟨g1,g2,g3⟩|⟨g1,g2,g3⟩|⟨rfl,g2,g3⟩
   .exact .inl ⟨awg,p_,by simp[g3]⟩
   .exact .inr (.inl ⟨awg,p_,by simp[g3]⟩)
   .exact .inr (.inr ⟨rfl,p_,p_⟩)
theorem lt_trans:∀{a b c:aj},lt a b=true->lt b c=true->lt a c=true
 |_,[],_,h,_=>by simp[lt,Op.bytesLess]at h
 |_,_::_,[],_,h=>by simp[lt,Op.bytesLess]at h
 |[],_::_,_::_,_,_=>rfl
 |x::a,y::b,z::c,h1,h2=>by
  simp only[lt,Op.bytesLess,lZ,iG,fU,beq_iff_eq]at h1 h2⊢;rcases h1 with h1|⟨rfl,h1⟩
  .rcases h2 with h2|⟨rfl,h2⟩
   .exact .inl (iZ.2 (by have:=iZ.1 h1;have:=iZ.1 h2;omega))
   .exact .inl h1
  .rcases h2 with h2|⟨rfl,h2⟩
   .exact .inl h2
   .exact .inr ⟨rfl,lt_trans (a:=a) (b:=b) (c:=c) h1 h2⟩
def le(a b:aj):Prop:=lt b a=false
theorem le_refl(a:aj):le a a:=lt_irrefl a
theorem le_of_lt{a b:aj}(h:lt a b=true):le a b:=by
 rcases Jk a b with⟨_,h2,_⟩|⟨_,h2,_⟩|⟨_,h2,_⟩
 .exact h2
 .rw[h]at h2;cases h2
 .rw[h]at h2;cases h2
theorem le_trans{a b c:aj}(h1:le a b)(h2:le b c):le a c:=by
 unfold le at*;rcases Jk a c with⟨_,h,_⟩|⟨h,_,_⟩|⟨_,_,h⟩
 .exact h
 .exfalso;rcases Jk a b with⟨g,_,_⟩|⟨g,_,_⟩|⟨rfl,_,_⟩
  .have:=lt_trans h g;rw[h2]at this;cases this
  .rw[h1]at g;cases g
  .rw[h2]at h;cases h
 .exact h
theorem lt_of_le_ne{a b:aj}(h:le a b)(hn:a≠b):lt a b=true:=by
 rcases Jk a b with⟨g,_,_⟩|⟨g,_,_⟩|⟨e,_,_⟩
 .exact g
 .unfold le at h;rw[h]at g;cases g
 .exact absurd e hn
structure rU where
 k:aj
 a:aW
 l:Nat
 c:Nat
def rU.d(e:rU):ai:=.slice e.a e.l e.c
def qX(n:Nat)(f g:Nat->rU):Prop:=∃σ τ:Nat->Nat,(∀i,i<n->σ i<n/\τ i<n/\τ (σ i)=i/\σ (τ i)=i)/\∀i,i<n->g i=f (σ i)
theorem qX.refl(n:Nat)(f:Nat->rU):qX n f f:=⟨id,id,λ_ h=>⟨h,h,rfl,rfl⟩,λ_ _=>rfl⟩
theorem qX.symm{n:Nat}{f g:Nat->rU}(a:qX n f g):qX n g f:=by obtain⟨σ,τ,s,t⟩:=a;exact⟨τ,σ,λi hi=>⟨(s i hi).2.1,(s i hi).1,(s i hi).2.2.2,(s i hi).2.2.1⟩,λi hi=>by rw[t _ (s i hi).2.1,(s i hi).2.2.2]⟩
theorem qX.trans{n:Nat}{f g h:Nat->rU}(a:qX n f g)(b:qX n g h):qX n f h:=by obtain⟨σ,σ',s1,s2⟩:=a;obtain⟨τ,τ',t1,t2⟩:=b;refine⟨λi=>σ (τ i),λi=>τ' (σ' i),λi hi=>?_,λi hi=>by rw[t2 i hi,s2 _ (t1 i hi).1]⟩;have a1:=t1 i hi;have a2:=s1 (τ i) a1.1;have b1:=s1 i hi;have b2:=t1 (σ' i) b1.2.1;exact⟨a2.1,b2.2.1,by show τ' (σ' (σ (τ i)))=i;rw[a2.2.2.1,a1.2.2.1],by show σ (τ (τ' (σ' i)))=i;rw[b2.2.2.2,b1.2.2.2]⟩
theorem qX.congr{n:Nat}{f g h:Nat->rU}(a:qX n f g)(b:∀i,i<n->g i=h i):qX n f h:=by obtain⟨σ,τ,s1,s2⟩:=a;exact⟨σ,τ,s1,λi hi=>(b i hi).symm.trans (s2 i hi)⟩
theorem qX.from{n:Nat}{f g:Nat->rU}(a:qX n f g){i:Nat}(hi:i<n):∃j,j<n/\g i=f j:=by obtain⟨σ,τ,s1,s2⟩:=a;exact⟨σ i,(s1 i hi).1,s2 i hi⟩
theorem qX.two{n:Nat}{f g:Nat->rU}(a:qX n f g){i j:Nat}(hi:i<n)(hj:j<n)(PV:i≠j):∃i' j',i'<n/\j'<n/\i'≠j'/\g i=f i'/\g j=f j':=by obtain⟨σ,τ,s1,s2⟩:=a;exact⟨σ i,σ j,(s1 i hi).1,(s1 j hj).1,λe=>PV (by rw[<-(s1 i hi).2.2.1,e,(s1 j hj).2.2.1]),s2 i hi,s2 j hj⟩
def swp(f:Nat->rU)(i j:Nat):Nat->rU:=λx=>if x=i then f j else if x=j then f i else f x
theorem qX.swp{n i j:Nat}(f:Nat->rU)(hi:i<n)(hj:j<n):qX n f (swp f i j):=by
 have key:∀x,x<n->(if x=i then j else if x=j then i else x)<n/\(if(if x=i then j else if x=j then i else x)=i then j else if(if x=i then j else if x=j then i else x)=j then i else(if x=i then j else if x=j then i else x))=x:=λx hx=>by
  by_cases e1:x=i
  .rw[ax e1];by_cases e2:j=i
   .rw[ax e2];exact⟨hj,ag⟩
   .rw[au e2,ax rfl];exact⟨hj,e1.symm⟩
  .rw[au e1];by_cases e2:x=j
   .rw[ax e2,ax rfl];exact⟨hi,e2.symm⟩
   .rw[au e2,au e1,au e2];exact⟨hx,rfl⟩
 refine⟨λx=>if x=i then j else if x=j then i else x,λx=>if x=i then j else if x=j then i else x,λx hx=>⟨(key x hx).1,(key x hx).1,(key x hx).2,(key x hx).2⟩,λx hx=>?_⟩;unfold Hp.swp;dsimp only;split
 .rfl
 .split<;>rfl
theorem qX.snoc{n:Nat}{f g:Nat->rU}(a:qX n f g){f' g':Nat->rU}(hf:∀i,i<n->f' i=f i)(hg:∀i,i<n->g' i=g i)(he:f' n=g' n):qX (n+1) f' g':=by
 obtain⟨σ,τ,s1,s2⟩:=a;refine⟨λi=>if i=n then n else σ i,λi=>if i=n then n else τ i,λi hi=>?_,λi hi=>?_⟩
 .by_cases e:i=n
  .simp only[ax e,aY];exact⟨ag,ag,e.symm,e.symm⟩
  .have a1:=s1 i ag;simp only[au e,au (show¬σ i=n by omega),au (show¬τ i=n by omega)];exact⟨ag,ag,a1.2.2.1,a1.2.2.2⟩
 .dsimp only;split
  .rename_i e;rw[e,he]
  .rw[hg i ag,s2 i ag,hf _ (s1 i ag).1]
theorem qX.tail{n m k:Nat}{o g g':Nat->rU}(a:qX k g g')(h:m+k=n):qX n (λx=>if x<m then o x else g (x-m)) (λx=>if x<m then o x else g' (x-m)):=by
 obtain⟨σ,τ,s1,s2⟩:=a;refine⟨λx=>if x<m then x else m+σ (x-m),λx=>if x<m then x else m+τ (x-m),λx hx=>?_,λx hx=>?_⟩
 .by_cases e:x<m
  .exact ax7
  .have a1:=s1 (x-m) ag;simp only[au e,au (show¬m+σ (x-m)<m by omega),au (show¬m+τ (x-m)<m by omega),iJ,a1.2.2.1,a1.2.2.2];exact⟨ag,ag,ag,ag⟩
 .by_cases e:x<m
  .simp only[ax e]
  .simp only[au e,au (show¬m+σ (x-m)<m by omega),iJ];exact s2 _ ag
theorem qX.apN{n m k:Nat}{o g:Nat->rU}(h:m+(k+1)=n):qX n (λx=>if x<m then o x else g (x-m)) (λx=>if x<m+1 then(if x=m then g 0 else o x)else(if x-(m+1)=0 then g k else g (x-(m+1)))):=by
 refine⟨λx=>if x<=m then x else if x=m+1 then n-1 else x-1,λx=>if x<=m then x else if x=n-1 then m+1 else x+1,λx hx=>?_,λx hx=>?_⟩
 .by_cases e:x<=m
  .exact ax7
  .by_cases e2:x=m+1
   .simp only[au e,ax e2,au (show¬n-1<=m by omega),aY];by_cases e3:x=n-1
    .exact ay4
    .exact ax8
   .simp only[au e,au e2,au (show¬x-1<=m by omega),au (show¬x-1=n-1 by omega)];by_cases e3:x=n-1
    .exact ay4
    .exact ax8
 .by_cases e:x<=m
  .simp only[ax e,ax (show x<m+1 by omega)];by_cases e2:x=m
   .rw[ax e2,au ag,e2,mZ]
   .rw[au e2,ax ag]
  .by_cases e2:x=m+1
   .simp only[au e,ax e2,au (show¬x<m+1 by omega),au (show¬n-1<m by omega),ax (show x-(m+1)=0 by omega)]
    congr 1
    omega
   .simp only[au e,au e2,au (show¬x<m+1 by omega),au (show¬x-1<m by omega),au (show¬x-(m+1)=0 by omega)]
    congr 1
    omega
def Hp(f:Nat->rU)(n:Nat):Prop:=∀c,0<c->c<n->le (f ((c-1)/2)).k (f c).k
def agN(f:Nat->rU)(n i:Nat):Prop:=(∀c,0<c->c<n->c≠i->le (f ((c-1)/2)).k (f c).k)/\∀c,0<c->c<n->(c-1)/2=i->0<i->le (f ((i-1)/2)).k (f c).k
def agO(f:Nat->rU)(n i:Nat):Prop:=(∀c,0<c->c<n->(c-1)/2≠i->le (f ((c-1)/2)).k (f c).k)/\∀c,0<c->c<n->(c-1)/2=i->0<i->le (f ((i-1)/2)).k (f c).k
theorem afg{f:Nat->rU}{n i:Nat}(h:agN f n i)(hs:0<i->le (f ((i-1)/2)).k (f i).k):Hp f n:=λc h0 hc=>by
 by_cases e:c=i
 .subst e;exact hs h0
 .exact h.1 c h0 hc e
theorem amD{f:Nat->rU}{n i:Nat}(h:agN f n i)(zo:0<i)(hi:i<n)(hl:lt (f i).k (f ((i-1)/2)).k=true):agN (swp f ((i-1)/2) i) n ((i-1)/2):=by
 have hp:(i-1)/2<i:=ag;generalize hpi:(i-1)/2=p at*;refine⟨λc h0 hc hne=>?_,λc h0 hc hcp hp0=>?_⟩
 .by_cases e:c=i
  .subst e;rw[hpi];unfold swp;rw[ax rfl,au ag,ax rfl];exact le_of_lt hl
  .by_cases e2:(c-1)/2=i
   .unfold swp;rw[e2,au ag,ax rfl,au hne,au e];have:=h.2 c h0 hc e2 zo;rw[hpi]at this;exact this
   .by_cases e3:(c-1)/2=p
    .unfold swp;rw[e3,ax rfl,au hne,au e];have:=h.1 c h0 hc e;rw[e3]at this;exact le_trans (le_of_lt hl) this
    .unfold swp;rw[au e3,au e2,au hne,au e];exact h.1 c h0 hc e
 .have hq:(p-1)/2<p:=ag;have hpp:=h.1 p hp0 ag ag;unfold swp;rw[au (show¬(p-1)/2=p by omega),au (show¬(p-1)/2=i by omega),au (show¬c=p by omega)];by_cases e:c=i
  .rw[ax e];exact hpp
  .rw[au e];have:=h.1 c h0 hc e;rw[hcp]at this;exact le_trans hpp this
theorem amG{f:Nat->rU}{n i:Nat}(h:agO f n i)(hs:∀c,0<c->c<n->(c-1)/2=i->le (f i).k (f c).k):Hp f n:=λc h0 hc=>by
 by_cases e:(c-1)/2=i
 .rw[e];exact hs c h0 hc e
 .exact h.1 c h0 hc e
theorem amF{f:Nat->rU}{n i c:Nat}(h:agO f n i)(hc0:0<c)(hc:c<n)(hci:(c-1)/2=i)(hl:lt (f c).k (f i).k=true)(hm:∀c',0<c'->c'<n->(c'-1)/2=i->le (f c).k (f c').k):agO (swp f c i) n c:=by
 have YD:i<c:=ag;refine⟨λx h0 hx hne=>?_,λx h0 hx hxc _=>?_⟩
 .by_cases e:(x-1)/2=i
  .unfold swp;rw[e,au ag,ax rfl];by_cases e2:x=c
   .rw[ax e2];exact le_of_lt hl
   .rw[au e2,au ag];exact hm x h0 hx e
  .unfold swp;rw[au hne,au e];by_cases e2:x=c
   .subst e2;exact absurd hci e
   .rw[au e2];by_cases e3:x=i
    .subst e3;rw[ax rfl];exact h.2 c hc0 hc hci h0
    .rw[au e3];exact h.1 x h0 hx e
 .unfold swp;rw[hci,au (show¬i=c by omega),ax rfl,au (show¬x=c by omega),au (show¬x=i by omega)];have:=h.1 x h0 hx ag;rw[hxc]at this;exact this
theorem ajN{f:Nat->rU}{n:Nat}(h:Hp f n):∀i,i<n->le (f 0).k (f i).k:=by
 intro i
 induction i using Nat.strongRecOn with
 |_ i ih=>
  intro hi;rcases gy i with rfl|h0
  .exact le_refl _
  .exact le_trans (ih ((i-1)/2) ag ag) (h i h0 hi)
end Go.Hp
namespace Go.Proofs.Y
open Go.Proofs.Tryz
open Go.RowKit Go.Deep Go.Hp
def Np(k:aj):ai:=.string ⟨k.toArray⟩
structure Bt(o:Option Nat)(w w':ah):Prop where
 os:w'.os=w.os
 tape:w'.tape=w.tape
 output:w'.output=w.output
 size:w.heap.size<=w'.heap.size
 block:∀b,b<w.heap.size->some b≠o->w'.heap[b]?=w.heap[b]?
theorem Bt.refl(o:Option Nat)(w:ah):Bt o w w:=⟨rfl,rfl,rfl,ay _,λ_ _ _=>rfl⟩
theorem Bt.trans{o:Option Nat}{a b c:ah}(h:Bt o a b)(k:Bt o b c):Bt o a c:=⟨k.os.trans h.os,k.tape.trans h.tape,k.output.trans h.output,bF h.size k.size,λx hx hn=>(k.block x (bH hx h.size) hn).trans (h.block x hx hn)⟩
theorem Bt.drew{o:Option Nat}{a w:ah}(h:Bt o a w)(n:Nat):Bt o a (w.drewN n):=⟨h.os,h.tape,h.output,h.size,h.block⟩
theorem Bt.set{o:Option Nat}{a w:ah}(h:Bt o a w){g p:Nat}(hg:o=some g)(v:ai):Bt o a (w.setCell ⟨g,p,none⟩ v):=
 ⟨h.os,h.tape,h.output,au6,λb hb hn=>(dA _ _ _ _ (λe:b=g=>hn (by rw[e,hg]))).trans (h.block b hb hn)⟩
theorem Bt.below{o:Option Nat}{w w':ah}{B:Nat}(h:Bt o w w')(hB:B<=w.heap.size)(ho:∀g,o=some g->B<=g):Below B w w':=
 ⟨h.os,h.tape,h.output,h.size,λb hb=>h.block b ag (λe=>by have:=ho b e.symm;omega)⟩
def Zx(n:Nat)(f:Nat->rU)(i j:Nat):Nat:=if j<n/\Hp.lt (f j).k (f i).k=true then j else i
theorem amE(n:Nat)(f:Nat->rU)(i:Nat):(Zx n f (2*i+1) (2*i+2)=2*i+1\/Zx n f (2*i+1) (2*i+2)=2*i+2)/\((Zx n f (2*i+1) (2*i+2))<n->∀c,0<c->c<n->(c-1)/2=i->le (f (Zx n f (2*i+1) (2*i+2))).k (f c).k)/\(Zx n f (2*i+1) (2*i+2)<n\/∀c,0<c->c<n->(c-1)/2≠i):=by
 have hc:∀c,0<c->(c-1)/2=i->c=2*i+1\/c=2*i+2:=λc h0 h=>ag
 by_cases h:2*i+2<n/\Hp.lt (f (2*i+2)).k (f (2*i+1)).k=true
 .have e:Zx n f (2*i+1) (2*i+2)=2*i+2:=by unfold Zx;rw[ax h]
  rw[e];refine⟨.inr rfl,λ_ c h0 hcn hci=>?_,.inl h.1⟩;rcases hc c h0 hci with rfl|rfl
  .exact le_of_lt h.2
  .exact le_refl _
 .have e:Zx n f (2*i+1) (2*i+2)=2*i+1:=by unfold Zx;rw[au h]
  rw[e];refine⟨.inl rfl,λ_ c h0 hcn hci=>?_,?_⟩
  .rcases hc c h0 hci with rfl|rfl
   .exact le_refl _
   .rcases hx:Hp.lt (f (2*i+2)).k (f (2*i+1)).k with _|_
    .exact hx
    .exact absurd ⟨hcn,hx⟩ h
  .by_cases hn:2*i+1<n
   .exact .inl hn
   .refine .inr λc h0 hcn hci=>?_
    rcases hc c h0 hci with rfl|rfl<;>omega
theorem abC{P:aP}{ops:Array Oper}{o:Oper}{a:Act}{w:ah}{K:Act->ah->Prop}{Q:Exit->Act->ah->Prop}{E:Prop}
  (hg:o.guard=none) (s x:Operand) (t:aG) (uZ:o.op=Op.call {callee:=Callee.builtin Builtin.append,args:=#[s,x],argTypes:=#[t,t]})
  (base:Nat) (e:aG) (i:TypeInfo) (z:ai) (size bytes:Nat) (h1:P.underlying t=some (.slice e)) (h2:P.info? e=some i) (h3:i.zero=some z) (h4:i.size=size) (h5:i.bytes=bytes) (h6:z.cells.size=size) (h7:0<size)
  (v:ai) (n:Nat) (xs:aK) (hs:a.eval s=v) (vO:w.ownsRow base e size v n xs)
  (ad:Addr) (m c:Nat) (news:aK) (hx:a.eval x=.slice (some ad) m c) (hn:news.length=m*size) (hc:∀j u,news[j]?=some u->w.cell? (ad.add j)=some u) (h1c:∀u∈news,u.oneCell'=true)
  (b1:n+m<=maxLen) (b2:(n+m)*bytes<=140737488355328) (acF:base<=w.heap.size)
  (hK:∀v' w',w'.ownsRow base e size v' (n+m) (xs++news)->w.grownBy w' v.ownBlock->(v'.ownBlock=v.ownBlock\/v'.ownBlock=some w.heap.size)->K (a.put o.dst v') w'):
  if Region.wanted o (yielded ops a.tmps)=true then Oper.wp P o a w K Q else E:=by
 have hw:Region.wanted o (yielded ops a.tmps)=true:=auh;rw[ax hw];obtain⟨v',w',hr,r1,r2,_,r4⟩:=run_append_own_at (P:=P) w base t o.type e i z size bytes h1 h2 h3 h4 h5 h6 h7 v n xs vO ad m c news hn hc h1c b1 b2 acF;unfold Oper.wp;exact axO
theorem ajK{f:Nat->rU}{n:Nat}{e:rU}(h:Hp f n):agN (λx=>if x=n then e else f x) (n+1) n:=
 ⟨λc h0 hc hne=>by dsimp only;rw[au (show¬(c-1)/2=n by omega),au hne];exact h c h0 ag,λc h0 hc hcn _=>ag⟩
def adG(n:Nat)(f:Nat->rU)(x:Nat):rU:=if x=0 then f n else f x
theorem ao7{n:Nat}{f:Nat->rU}(h:Hp f (n+1)):agO (adG n f) n 0:=
 ⟨λc h0 hc hne=>by unfold adG;rw[au hne,au ag];exact h c h0 ag,λc _ _ _ h0=>absurd h0 ag⟩
end Go.Proofs.Y
namespace Go.Proofs.Y
open Go.Proofs.Tryz
def aef:Nat:=14514072000185962306
def yH:Nat:=18446744073709551615
def QB(v:Nat):Nat:=if v%2=1 then(v/2)^^^aef else v/2
def Af:Nat->Nat->Nat
 |0,v=>v
 |n+1,v=>Af n (QB v)
def abb(v b:Nat):Nat:=Af 8 (v^^^b)
def Ja(v:Nat):aC->Nat
 |[]=>v
 |b::l=>Ja (abb v b) l
def crc(l:aC):Nat:=yH-Ja yH l
def FX:aC:=[0,9051005139383707209,18102010278767414418,9704381199536204507,7257036000092981153,1814259000023245288,11493583972846619443,16292555063049989498,14514072000185962306,13040162471224305931,3628518000046490576,5746791986423309721,12527462061959317731,15006518869663149738,6263731030979658865,3131865515489829432]
def akf(v:Nat):Nat:=(v/16)^^^FX.getD (v%16) 0
theorem akg(b d:Nat):(b^^^d)%2=if b%2=d%2 then 0 else 1:=by exact ayu
theorem akh(b d:Nat):(b^^^d)/2=(b/2)^^^(d/2):=by exact ayf
theorem aki(a b c d:Nat):(a^^^b)^^^(c^^^d)=(a^^^c)^^^(b^^^d):=by rw[dJ,dJ];congr 1;rw[<-dJ,jA b,dJ]
theorem akj(a b:Nat):QB (a^^^b)=QB a^^^QB b:=by
 unfold QB;generalize aef=C;rw[akg,akh];have h1:a%2=0\/a%2=1:=ag;have h2:b%2=0\/b%2=1:=ag;rcases h1 with h1|h1<;>rcases h2 with h2|h2<;>simp[h1,h2]
 .rw[dJ]
 .rw[dJ,dJ,jA C]
 .rw[aki,kJ,lU]
theorem ab9:∀n a b,Af n (a^^^b)=Af n a^^^Af n b
 |0,_,_=>rfl
 |n+1,a,b=>by rw[Af,Af,Af,akj,ab9 n]
theorem abd:∀n m v,Af (n+m) v=Af m (Af n v)
 |0,m,v=>by simp[Af]
 |n+1,m,v=>by rw[Nat.succ_add,Af,Af,abd n]
theorem ahh(v:Nat):QB (2*v)=v:=by unfold QB;rw[au ag];omega
theorem akk(h:Nat):Af 4 (16*h)=h:=by have e:16*h=2*(2*(2*(2*h))):=ag;rw[e];simp only[Af,ahh]
theorem ahi:∀l:Fin 16,FX.getD l.val 0=Af 4 l.val:=f_
theorem amQ(v:Nat):v=(16*(v/16))^^^(v%16):=by
 have h:=avT (i:=4) (b:=v%16) ag (v/16);have e:v=2^4*(v/16)+v%16:=ag
 have h2:2^4*(v/16)|||v%16=(2^4*(v/16))^^^(v%16):=by
  apply avX;intro i;rw[Nat.testBit_or,Nat.testBit_xor,Nat.testBit_two_pow_mul,show v%16=v%2^4 from rfl,Nat.testBit_mod_two_pow];by_cases hi:i<4
  .simp[hi,Nat.not_le.2 hi]
  .simp[hi,Nat.not_lt.1 hi]
 rw[h2]at h
 calc v=2^4*(v/16)+v%16:=e
  _=_:=h
theorem afl(v:Nat):akf v=Af 4 v:=by
 have e:=amQ v;have h:Af 4 v=Af 4 (16*(v/16))^^^Af 4 (v%16):=by rw[<-ab9,<-e]
 rw[h,akk,akf,ahi ⟨v%16,jb _ ag⟩]
theorem ZT:aef<2^64:=aB
theorem amR{v:Nat}(h:v<2^64):QB v<2^64:=by
 unfold QB;split
 .exact gY ag ZT
 .omega
theorem ZU:∀n {v:Nat},v<2^64->Af n v<2^64
 |0,_,h=>h
 |n+1,_,h=>by rw[Af];exact ZU n (amR h)
theorem amS{v b:Nat}(h:v<2^64)(hb:b<256):abb v b<2^64:=ZU 8 (gY h ag)
theorem amT{v:Nat}(h:v<2^64):akf v<2^64:=by rw[afl];exact ZU 4 h
theorem Lh:yH<2^64:=aB
theorem apk(l:aC):crc l<2^64:=Nat.lt_of_le_of_lt (Nat.sub_le _ _) Lh
theorem ahj:∀l:Fin 16,FX.getD l.val 0<2^64:=f_
end Go.Proofs.Y
namespace Go.Proofs.Y
open Go.Proofs.Tryz
open Go.RowKit
theorem Zi{a b:Int}(h:a=b):Ending.returned (.int .u64 a)=.returned (.int .u64 b):=iU
theorem BG(a:Nat)(ha:a<2^64):(BitVec.ofInt 64 (a:Int)).toNat=a:=by rw[av5,au1];exact dB ha
theorem FD(a:Nat)(ha:a<2^64):IntKind.u64.wrap (a:Int)=(a:Int):=by simp[IntKind.wrap,IntKind.bits,IntKind.signed];omega
theorem Et{a b:Nat}(ha:a<2^64)(hb:b<2^64):bits .xor .u64 (a:Int) (b:Int)=((a^^^b:Nat):Int):=by show IntKind.u64.wrap ((BitVec.ofInt 64 (a:Int)^^^BitVec.ofInt 64 (b:Int)).toNat:Int)=_;rw[au0,BG a ha,BG b hb,FD _ (gY ha hb)]
theorem ahk{a:Nat}(ha:a<2^64):bits .and .u64 (a:Int) 15=((a%16:Nat):Int):=by show IntKind.u64.wrap ((BitVec.ofInt 64 (a:Int)&&&BitVec.ofInt 64 ((15:Nat):Int)).toNat:Int)=_;have h:=Nat.and_two_pow_sub_one_eq_mod a 4;have h15:a&&&15=a%16:=h;rw[BitVec.toNat_and,BG a ha,BG 15 ag,h15,FD _ ag]
theorem akl{a:Nat}:((a:Nat):Int)/16=((a/16:Nat):Int):=ag
theorem amU{s:Nat}(hs:s<2^64):yH^^^s=yH-s:=by
 have h:(BitVec.allOnes 64^^^BitVec.ofNat 64 s).toNat=(~~~BitVec.ofNat 64 s).toNat:=by rw[BitVec.allOnes_xor]
 rw[au0,BitVec.toNat_not,BitVec.toNat_allOnes,au1,dB hs]at h;exact h
theorem afm{x y:Int}(h:x=y):Value.int .u64 x=Value.int .u64 y:=iU
theorem Zj{s:Nat}(hs:s<2^64):bits .xor .u64 IntKind.u64.max (s:Int)=((yH-s:Nat):Int):=by have e:IntKind.u64.max=((yH:Nat):Int):=aB;rw[e,Et Lh hs,amU hs]
theorem ahl(v b:Nat)(l:aC):Ja v (b::l)=Ja (abb v b) l:=rfl
theorem XH{k s x m:Nat}{xs:aC}(hk:k<xs.length)(ex:xs.getD k 0=x)(H:Ja s (xs.drop k)=m):Ja (abb s x) (xs.drop (k+1))=m:=by
 rw[av3 hk]at H;have e:xs[k]=x:=by rw[<-ex,bG,bQ hk];rfl
 rw[e]at H;exact(ahl s x _).symm.trans H
theorem four{y:Nat}(hy:y<2^64):∃m t z:Nat,m<16/\t=FX.getD m 0/\z<2^64/\z=Af 4 y/\bits .and .u64 (y:Int) 15=(m:Int)/\bits .xor .u64 ((y:Int)/16) (t:Int)=(z:Int):=by refine⟨y%16,_,akf y,jb _ ag,rfl,amT hy,afl y,ahk hy,?_⟩;rw[akl,Et ag (ahj ⟨y%16,jb _ ag⟩),akf]
theorem amV{v:Nat}(h:((v:Int)%2==1)=true):v%2=1:=by have:=fK h;omega
theorem apl{v:Nat}(h:((v:Int)%2==1)=false):¬v%2=1:=by have:=gQ h;omega
theorem akm{v:Nat}(hv:v<2^64):bits .xor .u64 ((v:Int)/2) 14514072000185962306=(((v/2)^^^aef:Nat):Int):=by have e:(v:Int)/2=((v/2:Nat):Int):=ag;rw[e];exact Et ag ZT
theorem akn{j v z:Nat}(hj:j<8)(h:v%2=1)(H:Af (8-j) v=z):Af (8-(j+1)) ((v/2)^^^aef)=z:=by
 obtain⟨n,hn⟩:∃n,8-j=n+1:=⟨8-j-1,ag⟩;have e:8-(j+1)=n:=ag;have h1:QB v=(v/2)^^^aef:=by unfold QB;rw[ax h]
 rw[e,<-h1];rw[hn]at H;exact H
theorem ahm{j v z:Nat}(hj:j<8)(h:¬v%2=1)(H:Af (8-j) v=z):Af (8-(j+1)) (v/2)=z:=by
 obtain⟨n,hn⟩:∃n,8-j=n+1:=⟨8-j-1,ag⟩;have e:8-(j+1)=n:=ag;have h1:QB v=v/2:=by unfold QB;rw[au h]
 rw[e,<-h1];rw[hn]at H;exact H
theorem ako(b off len cap:Nat)(xs:aC)(hl:xs.length=len)(hx:∀i,i<len->xs.getD i 0<256)(hm:len<=9223372036854775807)(w:ah)(hc:∀i,i<len->w.cell? ⟨b,off+i,none⟩=some (.int .u8 ((xs.getD i 0:Nat):Int))):
  Calls prog 117 #[.slice (some ⟨b,off,none⟩) len cap] w λe w'=>e=.returned (.int .u64 (crc xs:Nat))/\w'=w:=by
 have h0:bits .xor .u64 IntKind.u64.max 0=((yH:Nat):Int):=Zj (s:=0) aB;go_enter func117,ntmps117;go_wp2;clear h0
 go_loop [3,4,5,6] (λvs vi _ _=>∃k s:Nat,k<=len/\s<2^64/\vs=.int .u64 (s:Int)/\vi=.int .i64 (k:Int)/\Hid (Ja s (xs.drop k)=Ja yH xs)) (λ_ i _ _=>len-(intOf i).toNat)
 case atStart=>exact⟨0,yH,ag,Lh,rfl,rfl,rfl⟩
 case round=>
  obtain⟨k,s,hk,hs,rfl,rfl,H⟩:=hrel;by_cases qB:k<len
  .have hcell:=hc k qB;have hb:=hx k qB;obtain⟨x,ex⟩:∃x,xs.getD k 0=x:=⟨_,rfl⟩;rw[ex]at hcell hb;have ey:=Et hs (oM hb aB);obtain⟨y,hy⟩:∃y,s^^^x=y:=⟨_,rfl⟩;have ly:y<2^64:=hy▸gY hs (oM hb aB);rw[hy]at ey;have G:Hid (Ja (abb s x) (xs.drop (k+1))=Ja yH xs):=XH ag ex H.out;have lz:abb s x<2^64:=amS hs hb;obtain⟨z,hz⟩:∃z,abb s x=z:=⟨_,rfl⟩;have Z:Hid (Af 8 y=z):=by rw[<-hy];exact hz
   rw[hz]at lz;have G2:Hid (Ja z (xs.drop (k+1))=Ja yH xs):=by rw[<-hz];exact G
   clear ex hc hx hy H G hz;go_wp2;clear ey hcell
   go_loop [3,5,6] (λvs vj _=>∃j v:Nat,j<=8/\v<2^64/\vs=.int .u64 (v:Int)/\vj=.int .i64 (j:Int)/\Hid (Af (8-j) v=z)) (λ_ i _=>8-(intOf i).toNat)
   case atStart=>exact⟨0,y,ag,ly,rfl,rfl,Z⟩
   case round=>
    obtain⟨j,v,hj,hv,rfl,rfl,V⟩:=hrel;by_cases hjt:j<8
    .go_wp2
     .have h1:((v:Int)%2==1)=true:=dG;have h2:=amV h1;clear h1
      go_round
      case rel=>exact⟨j+1,(v/2)^^^aef,ag,gY ag ZT,afm (akm hv),aV,akn hjt h2 V.out⟩
      case measure=>simp[intOf];omega
     .have h1:((v:Int)%2==1)=false:=dG;have h2:=apl h1;clear h1
      go_round
      case rel=>exact⟨j+1,v/2,ag,ag,afm ag,aV,ahm hjt h2 V.out⟩
      case measure=>simp[intOf];omega
    .have e:j=8:=ag;subst e;have VZ:v=z:=V.out;subst VZ;clear V;go_wp2
     go_round
     case rel=>exact⟨k+1,v,ag,lz,rfl,aV,G2⟩
     case measure=>simp[intOf];omega
  .have e:k=xs.length:=ag
   have G:Hid (s=Ja yH xs):=by have:=H.out;rw[e,auU]at this;exact this
   clear H hc hx;exact axN
end Go.Proofs.Y
namespace Go.Proofs.Y
open Go.Proofs.Tryz
open Go.RowKit Go.Deep
structure qG(B:Nat)(S:Nat->Prop)(w w':ah):Prop where
 os:w'.os=w.os
 tape:w'.tape=w.tape
 output:w'.output=w.output
 size:w.heap.size<=w'.heap.size
 block:∀k,k<B->¬S k->w'.heap[k]?=w.heap[k]?
theorem qG.refl(B:Nat)(S:Nat->Prop)(w:ah):qG B S w w:=⟨rfl,rfl,rfl,ay _,λ_ _ _=>rfl⟩
theorem qG.trans{B:Nat}{S:Nat->Prop}{a b c:ah}(h:qG B S a b)(k:qG B S b c):qG B S a c:=
 ⟨k.os.trans h.os,k.tape.trans h.tape,k.output.trans h.output,bF h.size k.size,λi hi hs=>(k.block i hi hs).trans (h.block i hi hs)⟩
theorem qG.mono{B B':Nat}{S S':Nat->Prop}{a b:ah}(h:qG B S a b)(hB:B'<=B)(hS:∀k,S k->S' k):qG B' S' a b:=
 ⟨h.os,h.tape,h.output,h.size,λk hk hs=>h.block k (bH hk hB) (λx=>hs (hS k x))⟩
theorem qG.qw{B:Nat}{S:Nat->Prop}{a b:ah}(h:Below B a b):qG B S a b:=⟨h.os,h.tape,h.output,h.size,λk hk _=>h.block k hk⟩
theorem qG.setCell{B:Nat}{S:Nat->Prop}{a w:ah}(h:qG B S a w){p:Addr}(hp:B<=p.block\/S p.block)(u:ai):qG B S a (w.setCell p u):=
 h.trans ⟨rfl,rfl,rfl,by simp[World.setCell],λk hk hs=>dA _ _ _ _ (by
  rintro rfl;rcases hp with x|x
  .omega
  .exact hs x)⟩
theorem qG.alloc{B:Nat}{S:Nat->Prop}{a w:ah}(h:qG B S a w)(hB:B<=w.heap.size)(o:Obj):qG B S a (w.alloc o):=
 h.trans (.qw ((aO _ _).alloc hB o))
theorem qG.drew{B:Nat}{S:Nat->Prop}{a w:ah}(h:qG B S a w):qG B S a w.drew:=⟨h.os,h.tape,h.output,h.size,h.block⟩
theorem qG.grown{B:Nat}{S:Nat->Prop}{a w w':ah}{row:Option Nat}(h:qG B S a w)(hg:w.grownBy w' row)(hB:B<=w.heap.size)(hr:∀k,row=some k->B<=k):qG B S a w':=
 h.trans (.qw ((aO _ _).grown hg hB hr))
theorem qG.cell{B:Nat}{S:Nat->Prop}{w w':ah}(h:qG B S w w'){p:Addr}(hp:p.block<B)(hs:¬S p.block):w'.cell? p=w.cell? p:=oH (w:=w) (h.block p.block hp hs)
theorem qG.below{B:Nat}{S:Nat->Prop}{w w':ah}(h:qG B S w w')(hS:∀k,k<B->¬S k):Below B w w':=⟨h.os,h.tape,h.output,h.size,λk hk=>h.block k hk (hS k hk)⟩
def ql(w:ah)(b:Nat)(cs:aK)(t:aG):Prop:=w.heap[b]?=some (.cells cs.toArray t (0,0))
theorem ql.cell{w:ah}{b:Nat}{cs:aK}{t:aG}(h:ql w b cs t){i:Nat}{v:ai}(hi:cs[i]?=some v):w.cell? ⟨b,i,none⟩=some v:=by unfold ql at h;simp[World.cell?,h,hi]
theorem ql.frozen{w:ah}{b:Nat}{cs:aK}{t:aG}(h:ql w b cs t)(i:Nat):w.frozen? ⟨b,i,none⟩=false:=by unfold ql at h;simp[World.frozen?,h]
theorem ql.lt{w:ah}{b:Nat}{cs:aK}{t:aG}(h:ql w b cs t):b<w.heap.size:=by unfold ql at h;exact(eG.1 h).1
theorem ql.set{w:ah}{b:Nat}{cs:aK}{t:aG}(h:ql w b cs t)(i:Nat)(v:ai):ql (w.setCell ⟨b,i,none⟩ v) b (cs.set i v) t:=by unfold ql at*;simp[World.setCell,iy,h]
theorem ql.later{w w':ah}{b:Nat}{cs:aK}{t:aG}{B:Nat}{S:Nat->Prop}(h:ql w b cs t)(hb:qG B S w w')(h1:b<B)(h2:¬S b):ql w' b cs t:=by unfold ql at*;rw[hb.block b h1 h2];exact h
theorem ql.made(w:ah)(cs:aK)(t:aG):ql (w.alloc (.cells cs.toArray t)) w.heap.size cs t:=by show(w.heap.push _)[w.heap.size]?=_;simp
def Q3(v:ai)(at_ e p:Nat):aK:=[v,.int .i64 (at_:Int),.int .i64 (e:Int),.int .i64 (p:Int)]
def H_(w:ah)(sb:Nat)(v:ai)(at_ e p:Nat):Prop:=ql w sb (Q3 v at_ e p) 81
section
variable {w:ah}{sb:Nat}{v:ai}{at_ e p:Nat}
theorem H_.c0(h:H_ w sb v at_ e p):w.cell? ⟨sb,0,none⟩=some v:=ql.cell h rfl
theorem H_.c1(h:H_ w sb v at_ e p):w.cell? ⟨sb,1,none⟩=some (.int .i64 (at_:Int)):=ql.cell h rfl
theorem H_.c2(h:H_ w sb v at_ e p):w.cell? ⟨sb,2,none⟩=some (.int .i64 (e:Int)):=ql.cell h rfl
theorem H_.c3(h:H_ w sb v at_ e p):w.cell? ⟨sb,3,none⟩=some (.int .i64 (p:Int)):=ql.cell h rfl
theorem H_.setAt(h:H_ w sb v at_ e p)(x:Nat):H_ (w.setCell ⟨sb,1,none⟩ (.int .i64 (x:Int))) sb v x e p:=ql.set h 1 _
theorem H_.asr(h:H_ w sb v at_ e p)(x:Nat):H_ (w.setCell ⟨sb,2,none⟩ (.int .i64 (x:Int))) sb v at_ x p:=ql.set h 2 _
theorem H_.ajr(h:H_ w sb v at_ e p)(x:Nat):H_ (w.setCell ⟨sb,3,none⟩ (.int .i64 (x:Int))) sb v at_ e x:=ql.set h 3 _
end
def first(e x:Nat):Nat:=if e=0 then x else e
def Ia(e p y:Nat):Nat:=if e=0 then y else p
theorem OX(sb:Nat)(X Y:Int)(x y:Nat)(hX:X=x)(hY:Y=y)(v:ai)(at_ e p:Nat)(w:ah)(h:H_ w sb v at_ e p):
  Calls prog 61 #[.pointer (some ⟨sb,0,none⟩),.int .i64 X,.int .i64 Y] w λr w'=>r=.returned (.tuple #[])/\H_ w' sb v at_ (first e x) (Ia e p y)/\qG w.heap.size (· =sb) w w':=by
 subst hX hY;have c2:=h.c2;have c3:=h.c3;have f2:=ql.frozen h 2;have f3:=ql.frozen h 3;go_enter func61,ntmps61;by_cases he:e=0
 .subst he;have h1:=(h.asr x).ajr y;have b1:=((qG.refl w.heap.size (· =sb) w).setCell (p:=⟨sb,2,none⟩) (.inr rfl) (.int .i64 (x:Int))).setCell (p:=⟨sb,3,none⟩) (.inr rfl) (.int .i64 (y:Int));go_wp2;go_end0;exact⟨rfl,h1,b1⟩
 .have LM:((e:Int)==0)=false:=aJ;have E:Hid (¬e=0):=he;clear he;go_wp2;go_end0;refine⟨rfl,?_,qG.refl _ _ _⟩;unfold first Ia
  rw[au E.out,au E.out];exact h
theorem aa9(sb:Nat)(ok:Bool)(X Y:Int)(x y:Nat)(hX:X=x)(hY:Y=y)(v:ai)(at_ e p:Nat)(w:ah)(h:H_ w sb v at_ e p):
  Calls prog 31 #[.pointer (some ⟨sb,0,none⟩),.bool ok,.int .i64 X,.int .i64 Y] w λr w'=>r=.returned (.tuple #[])/\H_ w' sb v at_ (if ok then e else first e x) (if ok then p else Ia e p y)/\qG w.heap.size (· =sb) w w':=by
 subst hX hY;go_enter func31,ntmps31;cases ok
 .go_wp2_with(first|(go_at_call 61;refine(OX sb _ _ x y rfl rfl v at_ e p _ h).mono ?_;rintro r w' ⟨rfl,h1,b1⟩))
  go_end0;exact⟨rfl,h1,b1⟩
 .go_wp2;go_end0;exact⟨rfl,h,qG.refl _ _ _⟩
def sV(l:aj)(i:Nat):Nat:=(l.getD i 0).toNat
theorem Ha(l:aj)(i:Nat):sV l i<256:=mY _
def le(l:aj)(a:Nat):Nat->Nat
 |0=>0
 |n+1=>sV l a+256*le l (a+1) n
theorem IZ(l:aj):∀(n a:Nat),le l a n<256^n
 |0,_=>by simp[le]
 |n+1,a=>by have h1:=Ha l a;have h2:=IZ l n (a+1);simp only[le,jH];omega
def xM(w:ah)(bb bo:Nat)(l:aj):Prop:=∀i,i<l.length->w.cell? ⟨bb,bo+i,none⟩=some (.int .u8 (sV l i:Int))
theorem xM.later{w w':ah}{bb bo:Nat}{l:aj}{B:Nat}{S:Nat->Prop}(h:xM w bb bo l)(hb:qG B S w w')(h1:bb<B)(h2:¬S bb):xM w' bb bo l:=λi hi=>(hb.cell (p:=⟨bb,bo+i,none⟩) h1 h2).trans (h i hi)
theorem akp{l:aj}{a c n:Nat}(hc:c+1<=n):256*le l (a+(c+1)) (n-(c+1))+sV l (a+c)=le l (a+c) (n-c):=by obtain⟨m,hm⟩:∃m,n-c=m+1:=⟨n-c-1,ag⟩;have e:n-(c+1)=m:=ag;rw[hm,e];simp only[le];rw[show a+(c+1)=a+c+1 by omega];omega
theorem yZ{a b:Int}(h:a=b):Ending.returned (.int .i64 a)=.returned (.int .i64 b):=iU
theorem ab_(sb:Nat)(A N:Int)(a n:Nat)(hA:A=a)(hN:N=n)(hn:n<=4)(bb bo cap:Nat)(l:aj)(hl:l.length<2^60)(at_ e p:Nat)(w:ah)(h:H_ w sb (.slice (some ⟨bb,bo,none⟩) l.length cap) at_ e p)(hb:xM w bb bo l)(hr:e=0->a+n<=l.length):
  Calls prog 29 #[.pointer (some ⟨sb,0,none⟩),.int .i64 A,.int .i64 N] w λr w'=>r=.returned (.int .i64 ((if e=0 then le l a n else 0:Nat):Int))/\w'=w:=by
 subst hA hN;have c0:=h.c0;have c2:=h.c2;go_enter func29,ntmps29;by_cases he:e=0
 .subst he;have hr':=hr rfl;rw[ax rfl];clear hr h;go_wp2
  go_loop [7,8] (λvv vi=>∃c:Nat,c<=n/\vv=.int .i64 (le l (a+c) (n-c):Nat)/\vi=.int .i64 ((c:Int)-1)) (λ_ i=>(intOf i+1).toNat)
  case atStart=>exact⟨n,ay _,by simp[le],rfl⟩
  case round=>
   obtain⟨c,hc,rfl,rfl⟩:=hrel;cases c with
   |zero=>
    simp only[fF,auI];go_wp2;go_ret;exact⟨rfl,rfl⟩
   |succ c=>
    have hcell:=hb (a+c) ag;have hs:=akp (l:=l) (a:=a) hc;have qB:=IZ l (n-(c+1)) (a+(c+1));have hp:256^(n-(c+1))<=256^3:=m_ ag ag;have Jf:=Ha l (a+c);obtain⟨x,ex⟩:∃x,le l (a+(c+1)) (n-(c+1))=x:=⟨_,rfl⟩;obtain⟨y,ey⟩:∃y,sV l (a+c)=y:=⟨_,rfl⟩;rw[ex]at hs qB;rw[ey]at hs Jf hcell;have HS:Hid (256*x+y=le l (a+c) (n-c)):=hs
    have hx:x<16777216:=by have:(256:Nat)^3=16777216:=aB;omega
    have e1:((c+1:Nat):Int)-1=(c:Int):=ag;rw[e1,ex];clear hs qB hp ex ey hb e1;go_wp2
    go_round
    case rel=>exact⟨c,ag,by rw[<-HS.out];go_num,aV⟩
    case measure=>simp[intOf]<;>omega
 .have LM:((e:Int)==0)=false:=aJ;rw[au he];clear he hr h;go_wp2
  go_loop [7,8] (λvv vi=>vv=.int .i64 0/\vi=.int .i64 ((n:Int)-1)) (λ_ i=>(intOf i+1).toNat)
  case atStart=>exact⟨rfl,rfl⟩
  case round=>
   obtain⟨rfl,rfl⟩:=hrel;cases n with
   |zero=>
    go_wp2;go_ret;exact⟨rfl,rfl⟩
   |succ n=>
    have e1:((n+1:Nat):Int)-1=(n:Int):=ag;rw[e1];exact axd
def eOf(r:Option (Nat×Nat))(e:Nat):Nat:=match r with|none=>e|some x=>first e x.1
def pOf(r:Option (Nat×Nat))(e p:Nat):Nat:=match r with|none=>p|some x=>Ia e p x.2
theorem Zg{e:Nat}(h:e≠0)(r:Option (Nat×Nat)):eOf r e=e:=by
 cases r with
 |none=>rfl
 |some x=>simp[eOf,first,h]
theorem Zh{e:Nat}(h:e≠0)(p:Nat)(r:Option (Nat×Nat)):pOf r e p=p:=by
 cases r with
 |none=>rfl
 |some x=>simp[pOf,Ia,h]
def uS(l:aj)(a:Nat):aj->Option (Nat×Nat)
 |[]=>none
 |c::ws=>if l.length<=a then some (4,l.length)else if sV l a=c.toNat then uS l (a+1) ws else some (5,a)
theorem ahn{l ws:aj}{a i:Nat}{r:Option (Nat×Nat)}(hi:i<ws.length)(H:uS l (a+i) (ws.drop i)=r):
  (if l.length<=a+i then some (4,l.length)else if sV l (a+i)=(ws.getD i 0).toNat then uS l (a+(i+1)) (ws.drop (i+1))else some (5,a+i))=r:=by
 rw[av3 hi]at H;have e:ws.getD i 0=ws[i]:=by rw[bG,bQ hi];rfl
 rw[e];exact H
theorem qG.drewN{B:Nat}{S:Nat->Prop}{a w:ah}(h:qG B S a w)(n:Nat):qG B S a (w.drewN n):=h.trans ⟨rfl,rfl,rfl,ay _,λ_ _ _=>rfl⟩
theorem H_.later{w w':ah}{sb:Nat}{v:ai}{at_ e p B:Nat}{S:Nat->Prop}(h:H_ w sb v at_ e p)(hb:qG B S w w')(h1:sb<B)(h2:¬S sb):H_ w' sb v at_ e p:=ql.later h hb h1 h2
theorem H_.heap{w w':ah}{sb:Nat}{v:ai}{at_ e p:Nat}(h:H_ w sb v at_ e p)(hh:w'.heap=w.heap):H_ w' sb v at_ e p:=by unfold H_ ql at*;rw[hh];exact h
theorem Ya(ws:aj)(i:Nat)(hi:i<ws.length):∀w,(Instr.index 9 (.string ⟨ws.toArray⟩) (.int .i64 (i:Int))).run prog w=.ok (.int .u8 ((ws.getD i 0).toNat:Int)) w:=by
 intro w;rw[run_index_string w 9 _ _ _ underlying9];have h:0<=(i:Int)/\(i:Int)<((⟨ws.toArray⟩:ByteArray).size:Int):=by simp[ByteArray.size];omega
 rw[kG h];have e:ws.getD i 0=ws[i]:=by rw[bG,bQ hi];rfl
 rw[e];rfl
theorem aho(sb:Nat)(ws:aj)(hws:ws.length<100)(bb bo cap:Nat)(BR:bb≠sb)(l:aj)(hl:l.length<2^60)(at_ e p:Nat)(ha:at_<2^60)(w:ah)(h:H_ w sb (.slice (some ⟨bb,bo,none⟩) l.length cap) at_ e p)(hb:xM w bb bo l)(Ah:bb<w.heap.size):
  Calls prog 34 #[.pointer (some ⟨sb,0,none⟩),.string ⟨ws.toArray⟩] w λr w'=>r=.returned (.tuple #[])/\H_ w' sb (.slice (some ⟨bb,bo,none⟩) l.length cap) at_ (eOf (uS l at_ ws) e) (pOf (uS l at_ ws) e p)/\qG w.heap.size (· =sb) w w':=by
 have Kr:=ql.lt h;go_enter func34,ntmps34;go_wp2
 go_loopw [4] (λvi wr=>∃i:Nat,i<=ws.length/\vi=.int .i64 (i:Int)/\qG w.heap.size (· =sb) w wr/\
  ((e=0/\H_ wr sb (.slice (some ⟨bb,bo,none⟩) l.length cap) at_ 0 p/\uS l (at_+i) (ws.drop i)=uS l at_ ws)\/
   ((∃e',e'≠0/\e'=eOf (uS l at_ ws) e/\H_ wr sb (.slice (some ⟨bb,bo,none⟩) l.length cap) at_ e' (pOf (uS l at_ ws) e p))))) (λi _=>ws.length-(intOf i).toNat)
 case atStart=>
  refine⟨0,ag,rfl,qG.refl _ _ _,?_⟩;by_cases he:e=0
  .exact .inl ⟨he,he▸h,rfl⟩
  .exact .inr ⟨e,he,(Zg he _).symm,by rw[Zh he];exact h⟩
 case round=>
  obtain⟨i,hi,rfl,hB,hS⟩:=hrel;have hlen:(⟨ws.toArray⟩:ByteArray).size=ws.length:=by simp[ByteArray.size]
  rcases hS with⟨rfl,hS,H⟩|⟨e',LM,ee,hS⟩
  .have c0:=hS.c0;have c1:=hS.c1;have c2:=hS.c2;by_cases qB:i<ws.length
   .have HH:Hid _:=ahn qB H;clear H;by_cases NV:l.length<=at_+i
    .have arG:((at_:Int)+(i:Int)≥(l.length:Int)):=ag;have H2:Hid (uS l at_ ws=some (4,l.length)):=by have:=HH.out;rw[ax NV]at this;exact this.symm
     clear HH NV;go_wp2
     go_quiet (fail)
     go_wp2_with(first|(go_at_call 61;refine(OX sb _ _ 4 l.length aF aF _ at_ 0 p _ avQ).mono ?_;rintro r w' ⟨rfl,h1,b1⟩))
     go_roundw
     case rel=>exact⟨i+1,ag,aV,(hB.drewN _).trans (b1.mono hB.size (λ_ x=>x)),.inr ⟨4,aB,by rw[H2.out];rfl,avD⟩⟩
     case measure=>simp[intOf];omega
    .have Ku:at_+i<l.length:=ag;have arG:decide ((l.length:Int)<=(at_:Int)+(i:Int))=false:=aJ;have hcell:=(hb.later hB Ah BR) (at_+i) Ku;have VX:=Ya ws i qB;obtain⟨x,ex⟩:∃x,sV l (at_+i)=x:=⟨_,rfl⟩;obtain⟨y,ey⟩:∃y,(ws.getD i 0).toNat=y:=⟨_,rfl⟩;rw[ex]at hcell HH;rw[ey]at VX HH;clear ex ey;by_cases hc:x=y
     .have H2:Hid (uS l (at_+(i+1)) (ws.drop (i+1))=uS l at_ ws):=by have:=HH.out;rw[au NV,ax hc]at this;exact this
      clear HH NV;go_wp2
      go_quiet (fail)
      go_wp2
      go_quiet (fail)
      go_wp2
      go_roundw
      case rel=>exact⟨i+1,ag,aV,hB.drewN _,.inl ⟨aA,hS.heap rfl,H2⟩⟩
      case measure=>simp[intOf];omega
     .have H2:Hid (uS l at_ ws=some (5,at_+i)):=by have:=HH.out;rw[au NV,au hc]at this;exact this.symm
      have V3:((x:Int)==(y:Int))=false:=aJ;clear HH NV hc;go_wp2
      go_quiet (fail)
      go_wp2
      go_quiet (fail)
      go_wp2_with(first|(go_at_call 61;refine(OX sb _ _ 5 (at_+i) aF aA _ at_ 0 p _ avQ).mono ?_;rintro r w' ⟨rfl,h1,b1⟩))
      go_roundw
      case rel=>exact⟨i+1,ag,aV,(hB.drewN _).trans (b1.mono hB.size (λ_ x=>x)),.inr ⟨5,aB,by rw[H2.out];rfl,avD⟩⟩
      case measure=>simp[intOf];omega
   .have ei:i=ws.length:=ag;have H2:Hid (uS l at_ ws=none):=by rw[<-H,ei,auU];rfl
    clear H;go_wp2;go_end0;exact⟨rfl,by rw[H2.out];exact hS,hB⟩
  .have c2:=hS.c2;have he2:((e':Int)==0)=false:=aJ;have EE:Hid (e'=eOf (uS l at_ ws) e):=ee;clear LM ee;by_cases qB:i<ws.length
   .go_wp2;go_end0;exact⟨rfl,EE.out▸hS,hB⟩
   .go_wp2;go_end0;exact⟨rfl,EE.out▸hS,hB⟩
theorem Hy:(prog.info? 5).map (λi=>(i.zero,i.size,i.bytes))=some (some (.int .u8 0),1,1):=ak
def rP(l:aj):aK:=l.map λb=>Value.int .u8 (b.toNat:Int)
theorem ru(l:aj):(rP l).length=l.length:=fV
theorem JE{l:aj}{j:Nat}{u:ai}(h:(rP l)[j]?=some u):j<l.length/\u=.int .u8 (sV l j:Int):=by
 obtain⟨hj,e⟩:=fB.1 h;have NZ:j<l.length:=by simpa[rP]using hj
 refine⟨NZ,?_⟩;rw[<-e];simp only[rP,List.getElem_map,sV,bG,bQ NZ,bf]
theorem KJ(l:aj):∀u∈rP l,u.oneCell'=true:=by intro u hu;simp only[rP,gI]at hu;obtain⟨b,_,rfl⟩:=hu;rfl
theorem Hg(b off j:Nat):(⟨b,off,none⟩:Addr).add j=⟨b,off+j,none⟩:=by unfold Addr.add;by_cases h:j=0<;>simp[h]
theorem xM.news{w:ah}{bb bo:Nat}{l:aj}(h:xM w bb bo l):∀j u,(rP l)[j]?=some u->w.cell? ((⟨bb,bo,none⟩:Addr).add j)=some u:=by intro j u hj;obtain⟨h1,rfl⟩:=JE hj;rw[Hg];exact h j h1
def FI:Nat->Nat->aj
 |0,_=>[]
 |n+1,v=>UInt8.ofNat (v%256)::FI n (v/256)
theorem Es:∀n v,(FI n v).length=n
 |0,_=>rfl
 |n+1,v=>by simp[FI,Es n]
theorem aca:∀n v,FI (n+1) v=FI n v++[UInt8.ofNat (v/256^n%256)]
 |0,v=>by simp[FI]
 |n+1,v=>by show UInt8.ofNat (v%256)::FI (n+1) (v/256)=(UInt8.ofNat (v%256)::FI n (v/256))++_;rw[aca n (v/256),df,avY,jH,fQ]
def sumOf(l:aj):Nat:=crc (l.map UInt8.toNat)
theorem O0(l:aj)(i:Nat):(l.map UInt8.toNat).getD i 0=sV l i:=by simp only[sV,bG,dV];cases l[i]?<;>rfl
theorem akq(l:aj)(x:Nat)(hx:x<256)(m:aj)(e:m=l++[UInt8.ofNat x]):rP l++[.int .u8 (x:Int)]=rP m:=by subst e;simp only[rP,iP,je,kU];rw[jy,dB (by simpa using hx)]
theorem akr(bb bo cap:Nat)(l:aj)(hl:l.length<2^60)(w:ah)(hb:xM w bb bo l):
  Calls prog 117 #[.slice (some ⟨bb,bo,none⟩) l.length cap] w λe w'=>e=.returned (.int .u64 (sumOf l:Nat))/\w'=w:=
 ako bb bo l.length cap (l.map UInt8.toNat) aA (λi _=>by rw[O0];exact Ha l i) ag w (λi hi=>by rw[O0];exact hb i hi)
theorem amW(x:Int):∀u∈[Value.int .u8 x],u.oneCell'=true:=og
theorem Vy(l:aj):sumOf l<2^64:=apk _
theorem aeg(bb bo cap:Nat)(l:aj)(hl:l.length<2^40)(w:ah)(hb:xM w bb bo l)(Ah:bb<w.heap.size):
  Calls prog 87 #[.slice (some ⟨bb,bo,none⟩) l.length cap] w λr w'=>∃v,r=.returned v/\w'.ownsRow w.heap.size 5 1 v (l.length+8) (rP (l++FI 8 (sumOf l)))/\Below w.heap.size w w':=by
 obtain⟨i0,zo,xY,wW,vV⟩:=cO Hy;have anN:=bY w w.heap.size 5 1;have hs:=Vy l;obtain⟨s,es⟩:∃s,sumOf l=s:=⟨_,rfl⟩;rw[es]at hs;go_enter func87,ntmps87
 go_wp2_with(at_builtin;refine di _ rfl _ _ 24 rfl w.heap.size 5 i0 (.int .u8 0) 1 1 underlying24 zo xY wW vV rfl aB _ _ _ rfl anN ⟨bb,bo,none⟩ l.length cap (rP l) rfl (by rw[ru];omega) hb.news (KJ l) bT ag ag ?_;intro v' w1 tZ qA _)
 have tV:Below w.heap.size w w1:=(aO _ _).grown qA (ay _) (λk hk=>by cases hk);have TR:xM w1 bb bo l:=hb.later (.qw (S:=λ_=>False) tV) Ah id;clear qA
 go_wp2_with(first|(go_at_call 117;refine(akr bb bo cap l ag _ TR).mono ?_;rintro r w' ⟨rfl,sH⟩;obtain rfl:=sH.symm))
 clear TR anN;have hS:Hid (sumOf l=s):=es;clear es;simp only[dw,bJ]at tZ
 go_loopw [3,4,5] (λv vv vi wr=>∃c:Nat,c<=8/\vv=.int .u64 ((s/256^c:Nat):Int)/\vi=.int .i64 (c:Int)/\wr.ownsRow w.heap.size 5 1 v (l.length+c) (rP (l++FI c s))/\Below w.heap.size w wr) (λ_ _ i _=>8-(intOf i).toNat)
 case atStart=>exact⟨0,ag,aA,rfl,by simpa[FI]using tZ,tV⟩
 case round=>
  obtain⟨c,hc,rfl,rfl,vO,A_⟩:=hrel;clear tZ tV hb;have hsz:=A_.size;by_cases qB:c<8
  .obtain⟨y,ey⟩:∃y,s/256^c=y:=⟨_,rfl⟩;have hy:y<2^64:=by rw[<-ey];exact Nat.lt_of_le_of_lt (nz _ _) hs
   have EQ:Hid (rP (l++FI c s)++[.int .u8 ((y%256:Nat):Int)]=rP (l++FI (c+1) s)):=akq _ (y%256) ag _ (by rw[aca,ey,kX]);have DV:Hid (y/256=s/256^(c+1)):=by rw[<-ey,avY,jH];exact rfl
   rw[ey];clear ey hs
   go_wp2_with(at_builtin;refine di _ rfl _ _ 24 rfl w.heap.size 5 i0 (.int .u8 0) 1 1 underlying24 zo xY wW vV rfl aB _ _ _ rfl (vO.alloc _) ⟨wr.heap.size,0,none⟩ 1 1 [.int .u8 ((y%256:Nat):Int)] rfl rfl (cell_one_new _ _ _) (amW _) bT ag aJ ?_;intro v2 w2 vH qA _)
   have rq:=(A_.alloc ag (.cells #[Value.int .u8 ((y%256:Nat):Int)] 5)).grown qA aJ (λk hk=>(vO.lt k hk).1);clear qA;go_wp2
   go_roundw
   case rel=>exact⟨c+1,ag,by rw[<-DV.out];go_num,aV,by rw[<-EQ.out];exact vH,rq⟩
   case measure=>simp[intOf];omega
  .have e:c=8:=ag;subst e;go_wp2;go_ret;exact⟨_,rfl,by rw[hS.out];exact vO,A_⟩
theorem agt(bb bo k cap:Nat)(l:aj)(hk:l.length=k)(hl:k<2^40)(w:ah)(hb:xM w bb bo l)(Ah:bb<w.heap.size):
  Calls prog 87 #[.slice (some ⟨bb,bo,none⟩) k cap] w λr w'=>∃g c,r=.returned (.slice (some ⟨g,0,none⟩) (k+8) c)/\w.heap.size<=g/\g<w'.heap.size/\xM w' g 0 (l++FI 8 (sumOf l))/\Below w.heap.size w w':=by
 subst hk;refine(aeg bb bo cap l hl w hb Ah).mono ?_;rintro r w' ⟨v,rfl,h1,h2⟩;rcases h1.2 with⟨_,h0⟩|⟨g,c,cur,rfl,hg,hh,_⟩
 .omega
 refine⟨g,c,rfl,hg,(eG.1 hh).1,λi hi=>?_,h2⟩;have IC:i<l.length+8:=by simpa[Es]using hi
 have hc:=h1.cellAt i ag;rw[bJ,hc];obtain⟨u,hu⟩:∃u,(rP (l++FI 8 (sumOf l)))[i]?=some u:=⟨_,bQ (by simpa[rP]using hi)⟩;obtain⟨_,rfl⟩:=JE hu;exact hu
