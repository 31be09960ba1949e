import Derived.Test.YtnbflnamlpodcaaGreatDoorRowW
import Derived.Deep.AppendLies
import Derived.Lib.OwnKind
import Derived.Deep.Onto
import Derived.BigQuiet
import Derived.Deep.RegionLaw
set_option maxHeartbeats 8000000
set_option maxRecDepth 100000
namespace Go.Hp
theorem akb(a b:UInt8):(a<b/\¬b<a/\a≠b)\/(b<a/\¬a<b/\a≠b)\/(a=b/\¬a<b/\¬b<a):=by
 rcases oQ a.toNat b.toNat with h|h|h
 .refine .inl ⟨jb.2 h,λh'=>?_,λe=>?_⟩
  .have:=jb.1 h';omega
  .subst e;omega
 .have e:a=b:=UInt8.toNat_inj.1 h;subst e;exact .inr (.inr ⟨rfl,λh'=>ax8,λh'=>ax8⟩)
 .refine .inr (.inl ⟨jb.2 h,λh'=>?_,λe=>?_⟩)
  .have:=jb.1 h';omega
  .subst e;omega
abbrev lt(a b:ak):Bool:=Op.bytesLess a b
theorem lt_irrefl:∀a:ak,lt a a=false
 |[]=>rfl
 |x::a=>by have h:=akb x x;simp only[lt,Op.bytesLess]at*;have:=lt_irrefl a;simp only[lt]at this;simp[this]
theorem Hw:∀a b:ak,(lt a b=true/\lt b a=false/\a≠b)\/(lt b a=true/\lt a b=false/\a≠b)\/(a=b/\lt a b=false/\lt b a=false)
 |[],[]=>.inr (.inr ⟨rfl,rfl,rfl⟩)
 |[],y::b=>.inl ⟨rfl,rfl,ax⟩
 |x::a,[]=>.inr (.inl ⟨rfl,rfl,ax⟩)
 |x::a,y::b=>by
  simp only[lt,Op.bytesLess];rcases akb x y with⟨h1,h2,h3⟩|⟨h1,h2,h3⟩|⟨rfl,h2,_⟩
  .exact .inl ⟨by simp[h1],by simp[h2,dU h3],by simp[h3]⟩
  .exact .inr (.inl ⟨by simp[h1],by simp[h2,h3],by simp[h3]⟩)
  .rcases Hw a b with⟨g1,g2,g3⟩|⟨g1,g2,g3⟩|⟨rfl,g2,g3⟩
   .exact .inl ⟨axi,qh,by simp[g3]⟩
   .exact .inr (.inl ⟨axi,qh,by simp[g3]⟩)
   .exact .inr (.inr ⟨rfl,qh,qh⟩)
theorem lt_trans:∀{a b c:ak},lt a b=true->lt b c=true->lt a c=true
 |_,[],_,h,_=>by simp[lt,Op.bytesLess]at h
 |_,_::_,[],_,h=>by simp[lt,Op.bytesLess]at h
 |[],_::_,_::_,_,_=>rfl
 |x::a,y::b,z::c,h1,h2=>by
  simp only[lt,Op.bytesLess,l_,iP,gW,beq_iff_eq]at h1 h2⊢;rcases h1 with h1|⟨rfl,h1⟩
  .rcases h2 with h2|⟨rfl,h2⟩
   .exact .inl (jb.2 (by have:=jb.1 h1;have:=jb.1 h2;omega))
   .exact .inl h1
  .rcases h2 with h2|⟨rfl,h2⟩
   .exact .inl h2
   .exact .inr ⟨rfl,lt_trans (a:=a) (b:=b) (c:=c) h1 h2⟩
def le(a b:ak):Prop:=lt b a=false
theorem le_refl(a:ak):le a a:=lt_irrefl a
theorem le_of_lt{a b:ak}(h:lt a b=true):le a b:=by
 rcases Hw a b with⟨_,h2,_⟩|⟨_,h2,_⟩|⟨_,h2,_⟩
 .exact h2
 .rw[h]at h2;cases h2
 .rw[h]at h2;cases h2
theorem le_trans{a b c:ak}(h1:le a b)(h2:le b c):le a c:=by
 unfold le at*;rcases Hw a c with⟨_,h,_⟩|⟨h,_,_⟩|⟨_,_,h⟩
 .exact h
 .exfalso;rcases Hw a b with⟨g,_,_⟩|⟨g,_,_⟩|⟨rfl,_,_⟩
  .have:=lt_trans h g;rw[h2]at this;cases this
  .rw[h1]at g;cases g
  .rw[h2]at h;cases h
 .exact h
theorem lt_of_le_ne{a b:ak}(h:le a b)(hn:a≠b):lt a b=true:=by
 rcases Hw a b with⟨g,_,_⟩|⟨g,_,_⟩|⟨e,_,_⟩
 .exact g
 .unfold le at h;rw[h]at g;cases g
 .exact absurd e hn
theorem Po(a b:ak):(Op.bytesLess a b||a==b)=true↔le a b:=by
 rcases Hw a b with⟨g1,g2,_⟩|⟨g1,g2,g3⟩|⟨rfl,g2,g3⟩
 .simp only[lt]at g1 g2;simp[le,g1,g2]
 .simp only[lt]at g1 g2;simp[le,g1,g2,g3]
 .simp only[lt]at g2;simp[le,g2]
structure qX where
 k:ak
 a:aY
 l:Nat
 c:Nat
def qX.d(e:qX):ai:=.slice e.a e.l e.c
def qR(n:Nat)(f g:Nat->qX):Prop:=∃σ τ:Nat->Nat,(∀i,i<n->σ i<n/\τ i<n/\τ (σ i)=i/\σ (τ i)=i)/\∀i,i<n->g i=f (σ i)
theorem qR.refl(n:Nat)(f:Nat->qX):qR n f f:=⟨id,id,λ_ h=>⟨h,h,rfl,rfl⟩,λ_ _=>rfl⟩
theorem qR.symm{n:Nat}{f g:Nat->qX}(a:qR n f g):qR n g f:=by obtain⟨σ,τ,s,t⟩:=a;exact⟨τ,σ,λi hi=>⟨(s i hi).2.1,(s i hi).1,(s i hi).2.2.2,(s i hi).2.2.1⟩,λi hi=>by rw[t _ (s i hi).2.1,(s i hi).2.2.2]⟩
theorem qR.trans{n:Nat}{f g h:Nat->qX}(a:qR n f g)(b:qR n g h):qR n f h:=by obtain⟨σ,σ',s1,s2⟩:=a;obtain⟨τ,τ',t1,t2⟩:=b;refine⟨λi=>σ (τ i),λi=>τ' (σ' i),λi hi=>?_,λi hi=>by rw[t2 i hi,s2 _ (t1 i hi).1]⟩;have a1:=t1 i hi;have a2:=s1 (τ i) a1.1;have b1:=s1 i hi;have b2:=t1 (σ' i) b1.2.1;exact⟨a2.1,b2.2.1,by show τ' (σ' (σ (τ i)))=i;rw[a2.2.2.1,a1.2.2.1],by show σ (τ (τ' (σ' i)))=i;rw[b2.2.2.2,b1.2.2.2]⟩
theorem qR.congr{n:Nat}{f g h:Nat->qX}(a:qR n f g)(b:∀i,i<n->g i=h i):qR n f h:=by obtain⟨σ,τ,s1,s2⟩:=a;exact⟨σ,τ,s1,λi hi=>(b i hi).symm.trans (s2 i hi)⟩
theorem qR.from{n:Nat}{f g:Nat->qX}(a:qR n f g){i:Nat}(hi:i<n):∃j,j<n/\g i=f j:=by obtain⟨σ,τ,s1,s2⟩:=a;exact⟨σ i,(s1 i hi).1,s2 i hi⟩
theorem qR.two{n:Nat}{f g:Nat->qX}(a:qR n f g){i j:Nat}(hi:i<n)(hj:j<n)(WE:i≠j):∃i' j',i'<n/\j'<n/\i'≠j'/\g i=f i'/\g j=f j':=by obtain⟨σ,τ,s1,s2⟩:=a;exact⟨σ i,σ j,(s1 i hi).1,(s1 j hj).1,λe=>WE (by rw[<-(s1 i hi).2.2.1,e,(s1 j hj).2.2.1]),s2 i hi,s2 j hj⟩
def swp(f:Nat->qX)(i j:Nat):Nat->qX:=λx=>if x=i then f j else if x=j then f i else f x
theorem qR.swp{n i j:Nat}(f:Nat->qX)(hi:i<n)(hj:j<n):qR n f (swp f i j):=by
 have key:∀x,x<n->(if x=i then j else if x=j then i else x)<n/\(if(if x=i then j else if x=j then i else x)=i then j else if(if x=i then j else if x=j then i else x)=j then i else(if x=i then j else if x=j then i else x))=x:=λx hx=>by
  by_cases e1:x=i
  .rw[ay e1];by_cases e2:j=i
   .rw[ay e2];exact⟨hj,ag⟩
   .rw[au e2,ay rfl];exact⟨hj,e1.symm⟩
  .rw[au e1];by_cases e2:x=j
   .rw[ay e2,ay rfl];exact⟨hi,e2.symm⟩
   .rw[au e2,au e1,au e2];exact⟨hx,rfl⟩
 refine⟨λx=>if x=i then j else if x=j then i else x,λx=>if x=i then j else if x=j then i else x,λx hx=>⟨(key x hx).1,(key x hx).1,(key x hx).2,(key x hx).2⟩,λx hx=>?_⟩;unfold Hp.swp;dsimp only;split
 .rfl
 .split<;>rfl
theorem qR.snoc{n:Nat}{f g:Nat->qX}(a:qR n f g){f' g':Nat->qX}(hf:∀i,i<n->f' i=f i)(hg:∀i,i<n->g' i=g i)(he:f' n=g' n):qR (n+1) f' g':=by
 obtain⟨σ,τ,s1,s2⟩:=a;refine⟨λi=>if i=n then n else σ i,λi=>if i=n then n else τ i,λi hi=>?_,λi hi=>?_⟩
 .by_cases e:i=n
  .simp only[ay e,aX];exact⟨ag,ag,e.symm,e.symm⟩
  .have a1:=s1 i ag;simp only[au e,au (show¬σ i=n by omega),au (show¬τ i=n by omega)];exact⟨ag,ag,a1.2.2.1,a1.2.2.2⟩
 .dsimp only;split
  .rename_i e;rw[e,he]
  .rw[hg i ag,s2 i ag,hf _ (s1 i ag).1]
theorem qR.tail{n m k:Nat}{o g g':Nat->qX}(a:qR k g g')(h:m+k=n):qR n (λx=>if x<m then o x else g (x-m)) (λx=>if x<m then o x else g' (x-m)):=by
 obtain⟨σ,τ,s1,s2⟩:=a;refine⟨λx=>if x<m then x else m+σ (x-m),λx=>if x<m then x else m+τ (x-m),λx hx=>?_,λx hx=>?_⟩
 .by_cases e:x<m
  .exact azy
  .have a1:=s1 (x-m) ag;simp only[au e,au (show¬m+σ (x-m)<m by omega),au (show¬m+τ (x-m)<m by omega),iT,a1.2.2.1,a1.2.2.2];exact⟨ag,ag,ag,ag⟩
 .by_cases e:x<m
  .simp only[ay e]
  .simp only[au e,au (show¬m+σ (x-m)<m by omega),iT];exact s2 _ ag
theorem qR.alr{n m k:Nat}{o g:Nat->qX}(h:m+(k+1)=n):qR n (λx=>if x<m then o x else g (x-m)) (λx=>if x<m+1 then(if x=m then g 0 else o x)else(if x-(m+1)=0 then g k else g (x-(m+1)))):=by
 refine⟨λx=>if x<=m then x else if x=m+1 then n-1 else x-1,λx=>if x<=m then x else if x=n-1 then m+1 else x+1,λx hx=>?_,λx hx=>?_⟩
 .by_cases e:x<=m
  .exact azy
  .by_cases e2:x=m+1
   .simp only[au e,ay e2,au (show¬n-1<=m by omega),aX];by_cases e3:x=n-1
    .exact azE
    .exact azn
   .simp only[au e,au e2,au (show¬x-1<=m by omega),au (show¬x-1=n-1 by omega)];by_cases e3:x=n-1
    .exact azE
    .exact azn
 .by_cases e:x<=m
  .simp only[ay e,ay (show x<m+1 by omega)];by_cases e2:x=m
   .rw[ay e2,au ag,e2,lL]
   .rw[au e2,ay ag]
  .by_cases e2:x=m+1
   .simp only[au e,ay e2,au (show¬x<m+1 by omega),au (show¬n-1<m by omega),ay (show x-(m+1)=0 by omega)]
    congr 1
    omega
   .simp only[au e,au e2,au (show¬x<m+1 by omega),au (show¬x-1<m by omega),au (show¬x-(m+1)=0 by omega)]
    congr 1
    omega
def Hp(f:Nat->qX)(n:Nat):Prop:=∀c,0<c->c<n->le (f ((c-1)/2)).k (f c).k
def abS(f:Nat->qX)(n i:Nat):Prop:=(∀c,0<c->c<n->c≠i->le (f ((c-1)/2)).k (f c).k)/\∀c,0<c->c<n->(c-1)/2=i->0<i->le (f ((i-1)/2)).k (f c).k
def abT(f:Nat->qX)(n i:Nat):Prop:=(∀c,0<c->c<n->(c-1)/2≠i->le (f ((c-1)/2)).k (f c).k)/\∀c,0<c->c<n->(c-1)/2=i->0<i->le (f ((i-1)/2)).k (f c).k
theorem Us{f:Nat->qX}{n i:Nat}(h:abS f n i)(hs:0<i->le (f ((i-1)/2)).k (f i).k):Hp f n:=λc h0 hc=>by
 by_cases e:c=i
 .subst e;exact hs h0
 .exact h.1 c h0 hc e
theorem afA{f:Nat->qX}{n i:Nat}(h:abS f n i)(Ak:0<i)(hi:i<n)(hl:lt (f i).k (f ((i-1)/2)).k=true):abS (swp f ((i-1)/2) i) n ((i-1)/2):=by
 have hp:(i-1)/2<i:=ag;generalize hpi:(i-1)/2=p at*;refine⟨λc h0 hc hne=>?_,λc h0 hc hcp hp0=>?_⟩
 .by_cases e:c=i
  .subst e;rw[hpi];unfold swp;rw[ay rfl,au ag,ay rfl];exact le_of_lt hl
  .by_cases e2:(c-1)/2=i
   .unfold swp;rw[e2,au ag,ay rfl,au hne,au e];have:=h.2 c h0 hc e2 Ak;rw[hpi]at this;exact this
   .by_cases e3:(c-1)/2=p
    .unfold swp;rw[e3,ay rfl,au hne,au e];have:=h.1 c h0 hc e;rw[e3]at this;exact le_trans (le_of_lt hl) this
    .unfold swp;rw[au e3,au e2,au hne,au e];exact h.1 c h0 hc e
 .have hq:(p-1)/2<p:=ag;have hpp:=h.1 p hp0 ag ag;unfold swp;rw[au (show¬(p-1)/2=p by omega),au (show¬(p-1)/2=i by omega),au (show¬c=p by omega)];by_cases e:c=i
  .rw[ay e];exact hpp
  .rw[au e];have:=h.1 c h0 hc e;rw[hcp]at this;exact le_trans hpp this
theorem afB{f:Nat->qX}{n i:Nat}(h:abT f n i)(hs:∀c,0<c->c<n->(c-1)/2=i->le (f i).k (f c).k):Hp f n:=λc h0 hc=>by
 by_cases e:(c-1)/2=i
 .rw[e];exact hs c h0 hc e
 .exact h.1 c h0 hc e
theorem afC{f:Nat->qX}{n i c:Nat}(h:abT f n i)(hc0:0<c)(hc:c<n)(hci:(c-1)/2=i)(hl:lt (f c).k (f i).k=true)(hm:∀c',0<c'->c'<n->(c'-1)/2=i->le (f c).k (f c').k):abT (swp f c i) n c:=by
 have hic:i<c:=ag;refine⟨λx h0 hx hne=>?_,λx h0 hx hxc _=>?_⟩
 .by_cases e:(x-1)/2=i
  .unfold swp;rw[e,au ag,ay rfl];by_cases e2:x=c
   .rw[ay e2];exact le_of_lt hl
   .rw[au e2,au ag];exact hm x h0 hx e
  .unfold swp;rw[au hne,au e];by_cases e2:x=c
   .subst e2;exact absurd hci e
   .rw[au e2];by_cases e3:x=i
    .subst e3;rw[ay rfl];exact h.2 c hc0 hc hci h0
    .rw[au e3];exact h.1 x h0 hx e
 .unfold swp;rw[hci,au (show¬i=c by omega),ay rfl,au (show¬x=c by omega),au (show¬x=i by omega)];have:=h.1 x h0 hx ag;rw[hxc]at this;exact this
theorem ZP{f:Nat->qX}{n:Nat}(h:Hp f n):∀i,i<n->le (f 0).k (f i).k:=by
 intro i
 induction i using Nat.strongRecOn with
 |_ i ih=>
  intro hi;rcases fE i with rfl|h0
  .exact le_refl _
  .exact le_trans (ih ((i-1)/2) ag ag) (h i h0 hi)
end Go.Hp
namespace Go.Proofs.Y
open Go.Proofs.Tryz
open Go.RowKit Go.Deep Go.Hp
def rH(k:ak):ai:=.string ⟨k.toArray⟩
def abU(e:qX):aK:=[rH e.k,rH e.k,e.d]
def JH(n:Nat)(f:Nat->qX):aK:=(List.range n).flatMap λi=>abU (f i)
theorem wP(n:Nat)(f:Nat->qX):(JH n f).length=n*3:=by
 induction n with
 |zero=>rfl
 |succ n ih=>
  unfold JH at*;rw[dZ,nP,bK,ih];simp[abU];omega
theorem G5(n:Nat)(f:Nat->qX):JH (n+1) f=JH n f++abU (f n):=by unfold JH;rw[dZ,nP];simp
theorem JW(n:Nat)(f:Nat->qX)(i p:Nat)(hi:i<n)(hp:p<3):(JH n f)[i*3+p]?=(abU (f i))[p]?:=by
 induction n with
 |zero=>omega
 |succ n ih=>
  rw[G5];by_cases e:i=n
  .subst e;rw[jE oq,wP,show i*3+p-i*3=p by omega]
  .rw[gV oq,ih ag]
theorem Vu{n:Nat}{f g:Nat->qX}(h:∀i,i<n->f i=g i):JH n f=JH n g:=by
 induction n with
 |zero=>rfl
 |succ n ih=>rw[G5,G5,ih λi hi=>h i ag,h n ag]
theorem Vw(n:Nat)(f:Nat->qX)(i:Nat)(hi:i<n)(e:qX):(((JH n f).set (i*3) (rH e.k)).set (i*3+1) (rH e.k)).set (i*3+2) e.d=JH n (λx=>if x=i then e else f x):=by
 apply jk;intro m;by_cases hm:m<n*3
 .have hq:m=m/3*3+m%3:=ag;have hq3:m%3<3:=ag;generalize m/3=q at hq;generalize m%3=p at hq hq3;subst hq;rw[JW n _ q p ag hq3];have hold:=JW n f q p ag hq3;simp only[lZ,List.length_set,wP];by_cases e1:q=i
  .subst e1;rw[ay rfl];have:p=0\/p=1\/p=2:=ag;rcases this with rfl|rfl|rfl
   .rw[au ag,au ag,ay ag,ay ag];rfl
   .rw[au ag,ay ag,ay ag];rfl
   .rw[ay ag,ay ag];rfl
  .rw[au ag,au ag,au ag,hold,au e1]
 .rw[g_ (by simp[wP];omega),g_ oq]
structure Bt(o:Option Nat)(w w':ah):Prop where
 os:w'.os=w.os
 tape:w'.tape=w.tape
 output:w'.output=w.output
 size:w.heap.size<=w'.heap.size
 block:∀b,b<w.heap.size->some b≠o->w'.heap[b]?=w.heap[b]?
theorem Bt.refl(o:Option Nat)(w:ah):Bt o w w:=⟨rfl,rfl,rfl,az _,λ_ _ _=>rfl⟩
theorem Bt.trans{o:Option Nat}{a b c:ah}(h:Bt o a b)(k:Bt o b c):Bt o a c:=⟨k.os.trans h.os,k.tape.trans h.tape,k.output.trans h.output,bu h.size k.size,λx hx hn=>(k.block x (bG hx h.size) hn).trans (h.block x hx hn)⟩
theorem Bt.drew{o:Option Nat}{a w:ah}(h:Bt o a w)(n:Nat):Bt o a (w.drewN n):=⟨h.os,h.tape,h.output,h.size,h.block⟩
theorem Bt.set{o:Option Nat}{a w:ah}(h:Bt o a w){g p:Nat}(hg:o=some g)(v:ai):Bt o a (w.setCell ⟨g,p,none⟩ v):=
 ⟨h.os,h.tape,h.output,awe,λb hb hn=>(dD _ _ _ _ (λe:b=g=>hn (by rw[e,hg]))).trans (h.block b hb hn)⟩
theorem Bt.below{o:Option Nat}{w w':ah}{B:Nat}(h:Bt o w w')(hB:B<=w.heap.size)(ho:∀g,o=some g->B<=g):Below B w w':=
 ⟨h.os,h.tape,h.output,h.size,λb hb=>h.block b ag (λe=>by have:=ho b e.symm;omega)⟩
structure HA(B h n:Nat)(f:Nat->qX)(v:ai)(w:ah):Prop where
 var:w.rowIs h 68 1 (λ_=>v)
 own:w.ownsRow B 97 3 v n (JH n f)
 low:h<B
theorem HA.form{B h n:Nat}{f:Nat->qX}{v:ai}{w:ah}(H:HA B h n f v w)(hn:0<n):∃g cap,v=.slice (some ⟨g,0,none⟩) n cap/\B<=g/\n<=cap/\cap<=maxLen:=by
 rcases H.own.2 with⟨_,rfl⟩|⟨g,cap,cur,h1,h2,h3,h4,h5,_⟩
 .omega
 .exact⟨g,cap,h1,h2,h4,h5⟩
theorem HA.at{B h n g cap:Nat}{f:Nat->qX}{w:ah}(H:HA B h n f (.slice (some ⟨g,0,none⟩) n cap) w)(i:Nat)(hi:i<n):w.cell? ⟨g,i*3,none⟩=some (rH (f i).k)/\w.cell? ⟨g,i*3+1,none⟩=some (rH (f i).k)/\w.cell? ⟨g,i*3+2,none⟩=some (f i).d:=by have h0:=JW n f i 0 hi ag;have h1:=JW n f i 1 hi ag;have h2:=JW n f i 2 hi ag;exact⟨by rw[H.own.cellAt (i*3) ag];exact h0,by rw[H.own.cellAt (i*3+1) ag];exact h1,by rw[H.own.cellAt (i*3+2) ag];exact h2⟩
theorem HA.drew{B h n:Nat}{f:Nat->qX}{v:ai}{w:ah}(H:HA B h n f v w)(m:Nat):HA B h n f v (w.drewN m):=⟨H.var,H.own,H.low⟩
def NV(n:Nat)(f:Nat->qX)(i j:Nat):Nat:=if j<n/\Hp.lt (f j).k (f i).k=true then j else i
theorem Vx(B h n i j:Nat)(f:Nat->qX)(v:ai)(w:ah)(H:HA B h n f v w)(WE:j<n->i<n)(hj:j<4611686018427387904):
  Calls prog 75 #[.pointer (some ⟨h,0,none⟩),.int .i64 ((i:Nat):Int),.int .i64 ((j:Nat):Int)] w λe w'=>e=.returned (.int .i64 ((NV n f i j:Nat):Int))/\∃m,w'=w.drewN m:=by
 have a0:=H.var.cell (i:=0) ag;by_cases hjn:j<n
 .obtain⟨g,cap,rfl,hg,hnc,sU⟩:=H.form ag;have hd:decide ((j:Int)<(n:Int))=true:=aS;have Jh:(j:Int)<(n:Int):=ag;have La:(i:Int)<(n:Int):=by have:=WE hjn;omega
  have cj:=(H.at j hjn).1;have ci:=(H.at i (WE hjn)).1;unfold rH at cj ci;rcases hq:Hp.lt (f j).k (f i).k with _|_
  .have hr:NV n f i j=i:=by unfold NV;rw[au (λx=>by rw[hq]at x;exact absurd x.2 ax)]
   rw[hr];simp only[Hp.lt]at hq;clear H WE;go_enter func75,ntmps75
   go_wp2_with fail
   go_big_quiet (fail)
   exact ayn
  .have hr:NV n f i j=j:=by unfold NV;rw[ay ⟨hjn,hq⟩]
   rw[hr];simp only[Hp.lt]at hq;clear H WE;go_enter func75,ntmps75
   go_wp2_with fail
   go_big_quiet (fail)
   exact ayn
 .have hr:NV n f i j=i:=axc;rw[hr];have hd:decide ((j:Int)<(n:Int))=false:=aS
  obtain⟨bo,cap,rfl⟩:∃bo cap,v=.slice bo n cap:=by exact ayz
  clear H WE;go_enter func75,ntmps75
  go_wp2_with fail
  go_big_quiet (fail)
  exact ayn
theorem HA.swap{B h n g cap i j:Nat}{f:Nat->qX}{w:ah}(H:HA B h n f (.slice (some ⟨g,0,none⟩) n cap) w)(hi:i<n)(hj:j<n)(hg:B<=g):
  HA B h n (swp f i j) (.slice (some ⟨g,0,none⟩) n cap) ((((((w.setCell ⟨g,i*3,none⟩ (rH (f j).k)).setCell ⟨g,i*3+1,none⟩ (rH (f j).k)).setCell ⟨g,i*3+2,none⟩ (f j).d).setCell ⟨g,j*3,none⟩ (rH (f i).k)).setCell ⟨g,j*3+1,none⟩ (rH (f i).k)).setCell ⟨g,j*3+2,none⟩ (f i).d):=by
 have hne:h≠g:=by have:=H.low;omega
 have o:=(((((H.own.stored (i*3) (rH (f j).k)).1.stored (i*3+1) (rH (f j).k)).1.stored (i*3+2) (f j).d).1.stored (j*3) (rH (f i).k)).1.stored (j*3+1) (rH (f i).k)).1.stored (j*3+2) (f i).d;have o1:=o.1;rw[Vw n f i hi (f j),Vw n _ j hj (f i)]at o1;refine⟨(((((H.var.setOther (a:=⟨g,i*3,none⟩) hne _).setOther (a:=⟨g,i*3+1,none⟩) hne _).setOther (a:=⟨g,i*3+2,none⟩) hne _).setOther (a:=⟨g,j*3,none⟩) hne _).setOther (a:=⟨g,j*3+1,none⟩) hne _).setOther (a:=⟨g,j*3+2,none⟩) hne _,?_,H.low⟩
 have e:JH n (λx=>if x=j then f i else if x=i then f j else f x)=JH n (swp f i j):=Vu λx _=>by
  unfold swp;by_cases e1:x=i
  .by_cases e2:x=j
   .rw[ay e2,ay e1,<-e1,<-e2]
   .rw[au e2,ay e1,ay e1]
  .rw[au e1,au e1]
 rw[<-e];exact o1
theorem ac4(B h n i j:Nat)(f:Nat->qX)(v:ai)(w:ah)(H:HA B h n f v w)(hi:i<n)(hj:j<n):
  Calls prog 74 #[.pointer (some ⟨h,0,none⟩),.int .i64 ((i:Nat):Int),.int .i64 ((j:Nat):Int)] w λe w'=>e=.returned (.tuple #[])/\HA B h n (swp f i j) v w'/\Bt v.ownBlock w w':=by
 have a0:=H.var.cell (i:=0) ag;obtain⟨g,cap,rfl,hg,hnc,sU⟩:=H.form ag;have La:(i:Int)<(n:Int):=ag;have Jh:(j:Int)<(n:Int):=ag;obtain⟨ci0,ci1,ci2⟩:=H.at i hi;obtain⟨cj0,cj1,cj2⟩:=H.at j hj;have H2:=H.swap hi hj hg;have hb:Bt (some g) w ((((((w.setCell ⟨g,i*3,none⟩ (rH (f j).k)).setCell ⟨g,i*3+1,none⟩ (rH (f j).k)).setCell ⟨g,i*3+2,none⟩ (f j).d).setCell ⟨g,j*3,none⟩ (rH (f i).k)).setCell ⟨g,j*3+1,none⟩ (rH (f i).k)).setCell ⟨g,j*3+2,none⟩ (f i).d):=((((((Bt.refl (some g) w).set rfl _).set rfl _).set rfl _).set rfl _).set rfl _).set rfl _;have ex:∀{w:ah}{xs:aK},w.ownsRow B 97 3 (.slice (some ⟨g,0,none⟩) n cap) n xs->∀p,p<n*3->∃y,w.cell? ⟨g,p,none⟩=some y:=λ{w xs} o p hp=>⟨xs[p]' awz,awy⟩;have o0:=H.own;have z0:=o0.frozenAt (i*3);have o1:=(o0.stored (i*3) (rH (f j).k)).1;obtain⟨y1,e1⟩:=ex o1 (i*3+1) ag;have z1:=o1.frozenAt (i*3+1);have o2:=(o1.stored (i*3+1) (rH (f j).k)).1;obtain⟨y2,e2⟩:=ex o2 (i*3+2) ag;have z2:=o2.frozenAt (i*3+2);have o3:=(o2.stored (i*3+2) (f j).d).1;obtain⟨y3,e3⟩:=ex o3 (j*3) ag;have z3:=o3.frozenAt (j*3);have o4:=(o3.stored (j*3) (rH (f i).k)).1;obtain⟨y4,e4⟩:=ex o4 (j*3+1) ag;have z4:=o4.frozenAt (j*3+1);have o5:=(o4.stored (j*3+1) (rH (f i).k)).1;obtain⟨y5,e5⟩:=ex o5 (j*3+2) ag;have z5:=o5.frozenAt (j*3+2);clear o0 o1 o2 o3 o4 o5 ex H;unfold rH qX.d at*;go_enter func74,ntmps74;go_wp2;go_region;go_end0;clear a0 ci0 ci1 ci2 cj0 cj1 cj2 e1 e2 e3 e4 e5 z0 z1 z2 z3 z4 z5;generalize((((((w.setCell ⟨g,i*3,none⟩ (.string ⟨(f j).k.toArray⟩)).setCell ⟨g,i*3+1,none⟩ (.string ⟨(f j).k.toArray⟩)).setCell ⟨g,i*3+2,none⟩ (.slice (f j).a (f j).l (f j).c)).setCell ⟨g,j*3,none⟩ (.string ⟨(f i).k.toArray⟩)).setCell ⟨g,j*3+1,none⟩ (.string ⟨(f i).k.toArray⟩)).setCell ⟨g,j*3+2,none⟩ (.slice (f i).a (f i).l (f i).c))=W at H2 hb⊢;exact⟨rfl,⟨H2.var,H2.own,H2.low⟩,⟨hb.os,hb.tape,hb.output,hb.size,hb.block⟩⟩
def abV(B h n:Nat)(f:Nat->qX)(v:ai)(w:ah)(e:Ending)(w':ah):Prop:=e=.returned (.tuple #[])/\∃f',HA B h n f' v w'/\qR n f f'/\Hp f' n/\Bt v.ownBlock w w'
theorem adZ(B h n i:Nat)(f:Nat->qX)(v:ai)(w:ah)(H:HA B h n f v w)(hi:i<n)(hu:abS f n i):
  Calls prog 41 #[.pointer (some ⟨h,0,none⟩),.int .i64 ((i:Nat):Int)] w λe w'=>abV B h n f v w e w':=by
 obtain⟨g,cap,rfl,hg,hnc,sU⟩:=H.form ag;have XU:cap<=9223372036854775807:=sU;clear sU;go_enter func41,ntmps41;go_wp2
 go_loopw [1,4] (λvi _ wr=>∃(i:Nat)(f':Nat->qX),i<n/\vi=.int .i64 ((i:Nat):Int)/\HA B h n f' (.slice (some ⟨g,0,none⟩) n cap) wr/\qR n f f'/\abS f' n i/\Bt (some g) w wr) (λvi _ _=>(intOf vi).toNat)
 case atStart=>exact⟨i,f,hi,rfl,H,qR.refl n f,hu,Bt.refl _ _⟩
 case round=>
  clear H hi hu;obtain⟨i,f',hi,rfl,H,hR,hu,hb⟩:=hrel;by_cases h0:0<i
  .have h0':(0:Int)<(i:Int):=ag;have a0:=H.var.cell (i:=0) ag;have hp:(i-1)/2<i:=ag
   have hq:Int.tdiv ((i:Int)-1) 2=(((i-1)/2:Nat):Int):=by rw[av3 ag];omega
   have c1:=(H.at ((i-1)/2) ag).1;have c2:=(H.at i hi).1;unfold rH at c1 c2;have cs:=λm=>ac4 B h n ((i-1)/2) i f' _ (wr.drewN m) (H.drew m) ag hi
   have hus:=λhl=>afA hu h0 hi hl
   have uw:=λhl=>Us hu (λ_=>hl)
   have hRs:=hR.trans (qR.swp f' (show(i-1)/2<n by omega) hi);generalize hpp:(i-1)/2=p at*;have hp':(p:Int)<(n:Int):=ag;have La:(i:Int)<(n:Int):=ag;rcases hle:(Op.bytesLess (f' p).k (f' i).k||(f' p).k==(f' i).k)with _|_
   .have hl:Hp.lt (f' i).k (f' p).k=true:=by
     rcases hx:Hp.lt (f' i).k (f' p).k with _|_
     .have:=(Po (f' p).k (f' i).k).2 hx;rw[hle]at this;cases this
     .rfl
    have apQ:=hus hl;clear hus uw hl
    go_wp2_with fail
    go_big_quiet (fail)
    have cs':=cs nq;have hbq:=hb.drew nq;have hbs:=hbq.size;clear cs H hb;generalize wr.drewN nq=wq at*
    go_wp2_with(first|(go_at_call 74;(with_reducible refine cs'.mono ?_);rintro e w2 ⟨rfl,hH2,tX⟩))
    go_roundw
    case rel=>exact⟨p,_,ag,rfl,hH2,hRs,apQ,hbq.trans tX⟩
    case measure=>simp[intOf];omega
   .have hl:=uw ((Po (f' p).k (f' i).k).1 hle);clear hus uw
    go_wp2_with fail
    go_big_quiet (fail)
    have H2:=H.drew nq;have hbq:=hb.drew nq;clear cs H hb;generalize wr.drewN nq=wq at*;go_wp2;go_end0;exact⟨rfl,f',H2,hR,hl,hbq⟩
  .have h0':¬((0:Int)<(i:Int)):=ag;go_wp2;go_end0;exact azD
theorem afD(n:Nat)(f:Nat->qX)(i:Nat):(NV n f (2*i+1) (2*i+2)=2*i+1\/NV n f (2*i+1) (2*i+2)=2*i+2)/\((NV n f (2*i+1) (2*i+2))<n->∀c,0<c->c<n->(c-1)/2=i->le (f (NV n f (2*i+1) (2*i+2))).k (f c).k)/\(NV n f (2*i+1) (2*i+2)<n\/∀c,0<c->c<n->(c-1)/2≠i):=by
 have hc:∀c,0<c->(c-1)/2=i->c=2*i+1\/c=2*i+2:=λc h0 h=>ag
 by_cases h:2*i+2<n/\Hp.lt (f (2*i+2)).k (f (2*i+1)).k=true
 .have e:NV n f (2*i+1) (2*i+2)=2*i+2:=by unfold NV;rw[ay h]
  rw[e];refine⟨.inr rfl,λ_ c h0 hcn hci=>?_,.inl h.1⟩;rcases hc c h0 hci with rfl|rfl
  .exact le_of_lt h.2
  .exact le_refl _
 .have e:NV n f (2*i+1) (2*i+2)=2*i+1:=by unfold NV;rw[au h]
  rw[e];refine⟨.inl rfl,λ_ c h0 hcn hci=>?_,?_⟩
  .rcases hc c h0 hci with rfl|rfl
   .exact le_refl _
   .rcases hx:Hp.lt (f (2*i+2)).k (f (2*i+1)).k with _|_
    .exact hx
    .exact absurd ⟨hcn,hx⟩ h
  .by_cases hn:2*i+1<n
   .exact .inl hn
   .refine .inr λc h0 hcn hci=>?_
    rcases hc c h0 hci with rfl|rfl<;>omega
theorem Z9(B h n i:Nat)(f:Nat->qX)(v:ai)(w:ah)(H:HA B h n f v w)(hn:n<=4398046511104)(hi:i<n\/i=0)(hu:abT f n i):
  Calls prog 42 #[.pointer (some ⟨h,0,none⟩),.int .i64 ((i:Nat):Int)] w λe w'=>abV B h n f v w e w':=by
 go_enter func42,ntmps42;go_wp2
 go_loopw [1,4] (λvi _ wr=>∃(i:Nat)(f':Nat->qX),(i<n\/i=0)/\vi=.int .i64 ((i:Nat):Int)/\HA B h n f' v wr/\qR n f f'/\abT f' n i/\Bt v.ownBlock w wr) (λvi _ _=>n-(intOf vi).toNat)
 case atStart=>exact⟨i,f,hi,rfl,H,qR.refl n f,hu,Bt.refl _ _⟩
 case round=>
  clear H hi hu;obtain⟨i,f',hi,rfl,H,hR,hu,hb⟩:=hrel;obtain⟨l1,l2,l3⟩:=afD n f' i;have k1:=Vx B h n (2*i+1) (2*i+2) f' v wr H ag ag;generalize ha:NV n f' (2*i+1) (2*i+2)=a at*;have k2:=λw' (H':HA B h n f' v w')=>Vx B h n i a f' v w' H' (λ_=>ag) ag
  have dr:∀{w1 w2:ah},HA B h n f' v w1->Bt v.ownBlock w w1->(∃m,w2=w1.drewN m)->HA B h n f' v w2/\Bt v.ownBlock w w2:=λ{w1 w2} h1 h2 ⟨m,e⟩=>axf;have e1:2*((i:Nat):Int)+1=((2*i+1:Nat):Int):=ag;have e2:2*((i:Nat):Int)+2=((2*i+2:Nat):Int):=ag;by_cases hx:a<n/\Hp.lt (f' a).k (f' i).k=true
  .have el:NV n f' i a=a:=by unfold NV;rw[ay hx]
   have P8:i<n:=ag;rw[el]at k2;have hs:=afC hu (show 0<a by omega) hx.1 ag hx.2 (l2 hx.1);have cs:=λw' (H':HA B h n f' v w')=>ac4 B h n a i f' v w' H' hx.1 P8
   have hRs:=hR.trans (qR.swp f' hx.1 P8);have hne:((a:Int)==(i:Int))=false:=aS;have qK:=hx.1;clear hx el l2 l3 hu ha;generalize Ho:2*i+1=i1 at*;generalize hi3:2*i+2=i2 at*
   go_wp2_with(first
    |(go_at_call 75;(with_reducible refine k1.mono ?_);rintro e w1 ⟨rfl,BB⟩;(obtain⟨H1,uu⟩:=dr H hb BB);clear BB H hb k1)
    |(go_at_call 75;(with_reducible refine(k2 _ H1).mono ?_);rintro e w2 ⟨rfl,yf⟩;(obtain⟨H2,tX⟩:=dr H1 uu yf);clear yf H1 uu k2)
    |(go_at_call 74;(with_reducible refine(cs _ H2).mono ?_);rintro e w3 ⟨rfl,H3,wI⟩))
   go_roundw
   case rel=>exact⟨a,_,.inl qK,rfl,H3,hRs,hs,tX.trans wI⟩
   case measure=>simp[intOf];omega
  .have el:NV n f' i a=i:=by unfold NV;rw[au hx]
   rw[el]at k2
   have hs:Hp f' n:=afB hu λc h0 hc hci=>by
    rcases l3 with l3|l3
    .rcases hy:Hp.lt (f' a).k (f' i).k with _|_
     .exact le_trans hy (l2 l3 c h0 hc hci)
     .exact absurd ⟨l3,hy⟩ hx
    .exact absurd hci (l3 c h0 hc)
   have hne:((i:Int)==(i:Int))=true:=ax;clear hx el l2 l3 hu ha;generalize Ho:2*i+1=i1 at*;generalize hi3:2*i+2=i2 at*
   go_wp2_with(first
    |(go_at_call 75;(with_reducible refine k1.mono ?_);rintro e w1 ⟨rfl,BB⟩;(obtain⟨H1,uu⟩:=dr H hb BB);clear BB H hb k1)
    |(go_at_call 75;(with_reducible refine(k2 _ H1).mono ?_);rintro e w2 ⟨rfl,yf⟩;(obtain⟨H2,tX⟩:=dr H1 uu yf);clear yf H1 uu k2))
   go_end0;exact⟨rfl,f',H2,hR,hs,tX⟩
theorem Tryz.anh:(prog.info? 97).map (λi=>(i.zero,i.size,i.bytes))=some (some (.agg #[.string ⟨#[]⟩,.string ⟨#[]⟩,.slice none 0 0]),3,56):=aj
theorem akc(e:qX):∀u∈abU e,u.oneCell'=true:=by
 intro u hu;simp[abU]at hu;rcases hu with rfl|rfl
 .rfl
 .rfl
theorem Vy(w:ah)(x y z:ai)(t:aF):∀j u,[x,y,z][j]?=some u->(w.alloc (.cells #[x,y,z] t)).cell? ((⟨w.heap.size,0,none⟩:Addr).add j)=some u:=by
 intro j u hj
 match j,hj with
 |0,hj=>simp at hj;subst hj;simp[Addr.add]
 |1,hj=>simp at hj;subst hj;simp[Addr.add]
 |2,hj=>simp at hj;subst hj;simp[Addr.add]
theorem JV{P:aN}{ops:Array Oper}{o:Oper}{a:Act}{w:ah}{K:Act->ah->Prop}{Q:Exit->Act->ah->Prop}{E:Prop}
  (hg:o.guard=none) (s x:Operand) (t:aF) (uT:o.op=Op.call {callee:=Callee.builtin Builtin.append,args:=#[s,x],argTypes:=#[t,t]})
  (base:Nat) (e:aF) (i:TypeInfo) (z:ai) (size bytes:Nat) (h1:P.underlying t=some (.slice e)) (h2:P.info? e=some i) (h3:i.zero=some z) (h4:i.size=size) (h5:i.bytes=bytes) (h6:z.cells.size=size) (h7:0<size)
  (v:ai) (n:Nat) (xs:aK) (hs:a.eval s=v) (wS:w.ownsRow base e size v n xs)
  (ad:Addr) (m c:Nat) (news:aK) (hx:a.eval x=.slice (some ad) m c) (hn:news.length=m*size) (hc:∀j u,news[j]?=some u->w.cell? (ad.add j)=some u) (h1c:∀u∈news,u.oneCell'=true)
  (b1:n+m<=maxLen) (b2:(n+m)*bytes<=140737488355328) (alD:base<=w.heap.size)
  (hK:∀v' w',w'.ownsRow base e size v' (n+m) (xs++news)->w.grownBy w' v.ownBlock->(v'.ownBlock=v.ownBlock\/v'.ownBlock=some w.heap.size)->K (a.put o.dst v') w'):
  if Region.wanted o (yielded ops a.tmps)=true then Oper.wp P o a w K Q else E:=by
 have hw:Region.wanted o (yielded ops a.tmps)=true:=awp;rw[ay hw];obtain⟨v',w',hr,r1,r2,_,r4⟩:=run_append_own_at (P:=P) w base t o.type e i z size bytes h1 h2 h3 h4 h5 h6 h7 v n xs wS ad m c news hn hc h1c b1 b2 alD;unfold Oper.wp;exact azY
theorem HA.push{B h n:Nat}{f:Nat->qX}{v v':ai}{e:qX}{w wa w1:ah}(H:HA B h n f v w)(hB:B<=w.heap.size)(ha:Below w.heap.size w wa)(hg:wa.grownBy w1 v.ownBlock)(ho:w1.ownsRow B 97 3 v' (n+1) (JH n f++abU e)):
  HA B h (n+1) (λx=>if x=n then e else f x) v' (w1.setCell ⟨h,0,none⟩ v')/\w1.cell? ⟨h,0,none⟩=some v/\w1.frozen? ⟨h,0,none⟩=false/\Below h w (w1.setCell ⟨h,0,none⟩ v')/\B<=(w1.setCell ⟨h,0,none⟩ v').heap.size:=by
 have uI:=H.low;have hsa:=ha.size;have k:w1.heap[h]?=w.heap[h]?:=(hg.block h ag (λe'=>ayf)).trans (ha.block h ag);have r:=H.var.of_block k;have I_:Below B w w1:=((ha.mono hB).grown hg ag (λx hx=>(H.own.lt x hx).1));have yE:=I_.size;refine⟨⟨(r.set 0 v').congr λi hi=>avt,?_,uI⟩,r.cell (i:=0) ag,r.frozen 0,?_,aS⟩
 .rw[G5,ay rfl,Vu (g:=f) λi hi=>iq];exact eQ ho (a:=⟨h,0,none⟩) uI v'
 .exact azp
theorem abW{f:Nat->qX}{n:Nat}{e:qX}(h:Hp f n):abS (λx=>if x=n then e else f x) (n+1) n:=
 ⟨λc h0 hc hne=>by dsimp only;rw[au (show¬(c-1)/2=n by omega),au hne];exact h c h0 ag,λc h0 hc hcn _=>ag⟩
theorem alq(B h n:Nat)(f:Nat->qX)(v:ai)(e:qX)(w:ah)(H:HA B h n f v w)(hB:B<=w.heap.size)(hn:n<=1048576)(hp:Hp f n):
  Calls prog 23 #[.pointer (some ⟨h,0,none⟩),rH e.k,.agg #[rH e.k,e.d]] w λr w'=>r=.returned (.tuple #[])/\∃f' v',HA B h (n+1) f' v' w'/\qR (n+1) (λx=>if x=n then e else f x) f'/\Hp f' (n+1)/\Below h w w'/\B<=w'.heap.size:=by
 obtain⟨i0,Ak,yz,xA,wH⟩:=dm Tryz.anh
 have n0:(w.alloc (.cells #[rH e.k,e.d] 44)).rowIs w.heap.size 44 2 (λj=>if j=0 then rH e.k else e.d):=
  World.rowIs_alloc w #[rH e.k,e.d] 44 _ (λi hi=>by have:i=0\/i=1:=jq;rcases this with rfl|rfl<;>rfl)
 have uI:=H.low;have b0:Below h w (w.alloc (.cells #[rH e.k,e.d] 44)):=(aT _ _).alloc ag _;have H0:HA B h n f v (w.alloc (.cells #[rH e.k,e.d] 44)):=⟨H.var.alloc _,H.own.alloc _,H.low⟩;have Jj:B<=(w.alloc (.cells #[rH e.k,e.d] 44)).heap.size:=aS
 obtain⟨bo,cap,rfl⟩:∃bo cap,v=.slice bo n cap:=by exact ayz
 clear H hB;unfold rH qX.d at*;go_enter func23,ntmps23
 go_wp2_with fail
 have a0:=H0.var.cell (i:=0) ag;have c0:=n0.cell (i:=0) ag;have c1:=n0.cell (i:=1) ag;have a0':=(H0.var.alloc (.cells #[.string ⟨e.k.toArray⟩,.string ⟨e.k.toArray⟩,.slice e.a e.l e.c] 97)).cell (i:=0) ag;have Ze:=(n0.alloc (.cells #[.string ⟨e.k.toArray⟩,.string ⟨e.k.toArray⟩,.slice e.a e.l e.c] 97)).cell (i:=0) ag;have c1':=(n0.alloc (.cells #[.string ⟨e.k.toArray⟩,.string ⟨e.k.toArray⟩,.slice e.a e.l e.c] 97)).cell (i:=1) ag;simp only[aX,kQ,bQ]at c0 c1 Ze c1';generalize Nu:w.alloc (.cells #[.string ⟨e.k.toArray⟩,.slice e.a e.l e.c] 44)=w0 at*;clear n0 Nu
 go_region_law ((refine JV rfl _ _ 66 rfl B 97 i0 (.agg #[.string ⟨#[]⟩,.string ⟨#[]⟩,.slice none 0 0]) 3 56 underlying66 Ak yz xA wH rfl aC _ _ _ rfl ((H0.own.alloc _).drew) ⟨w0.heap.size,0,none⟩ 1 1 (abU e) rfl rfl (Vy _ _ _ _ _) (akc e) dB ag aS ?_;intro v' w1 xJ sO hwh;obtain⟨gq,cq,rfl,_,_⟩:=xJ.form ag;obtain⟨H2,d1,d2,tX,Ap⟩:=H0.push Jj (((aT w0.heap.size w0).alloc (az _) _).drew) sO xJ))
 all_goals
  have k3:=adZ B h (n+1) n _ _ _ H2 ag (abW hp);have g0:=H2.var.cell (i:=0) ag;have I_:=b0.trans tX;clear H0 H2 a0 a0' c0 Ze c1 c1' d1 d2 b0 tX sO hwh;generalize w1.setCell ⟨h,0,none⟩ (.slice (some ⟨gq,0,none⟩) (n+1) cq)=w2 at*
  go_wp2_with(first|(go_at_call 41;(with_reducible refine k3.mono ?_);rintro r w3 ⟨rfl,f',H3,WN,hp3,wI⟩))
  go_end0;exact azC
