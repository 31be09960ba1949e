import Derived.Test.YtnbflnamlpodcaaGreatDoorGjB
import Derived.Deep.AppendLies
import Derived.Lib.OwnKind
import Derived.Deep.Onto
import Derived.BigQuiet
import Derived.Deep.RegionLaw
set_option maxHeartbeats 8000000
set_option maxRecDepth 100000
namespace Go.Hp
theorem ajv(a b:UInt8):(a<b/\¬b<a/\a≠b)\/(b<a/\¬a<b/\a≠b)\/(a=b/\¬a<b/\¬b<a):=by
 rcases atZ a.toNat b.toNat with h|h|h
 .refine .inl ⟨iw.2 h,λh'=>?_,λe=>?_⟩
  .have:=iw.1 h';omega
  .subst e;omega
 .have e:a=b:=UInt8.toNat_inj.1 h;subst e;exact .inr (.inr ⟨rfl,λh'=>awn,λh'=>awn⟩)
 .refine .inr (.inl ⟨iw.2 h,λh'=>?_,λe=>?_⟩)
  .have:=iw.1 h';omega
  .subst e;omega
abbrev lt(a b:List UInt8):Bool:=Op.bytesLess a b
theorem lt_irrefl:∀a:List UInt8,lt a a=false
 |[]=>rfl
 |x::a=>by have h:=ajv x x;simp only[lt,Op.bytesLess]at*;have:=lt_irrefl a;simp only[lt]at this;simp[this]
theorem GU:∀a b:List UInt8,(lt a b=true/\lt b a=false/\a≠b)\/(lt b a=true/\lt a b=false/\a≠b)\/(a=b/\lt a b=false/\lt b a=false)
 |[],[]=>.inr (.inr ⟨rfl,rfl,rfl⟩)
 |[],y::b=>.inl ⟨rfl,rfl,ai⟩
 |x::a,[]=>.inr (.inl ⟨rfl,rfl,ai⟩)
 |x::a,y::b=>by
  simp only[lt,Op.bytesLess];rcases ajv x y with⟨h1,h2,h3⟩|⟨h1,h2,h3⟩|⟨rfl,h2,_⟩
  .exact .inl ⟨by simp[h1],by simp[h2,di h3],by simp[h3]⟩
  .exact .inr (.inl ⟨by simp[h1],by simp[h2,h3],by simp[h3]⟩)
  .rcases GU a b with⟨g1,g2,g3⟩|⟨g1,g2,g3⟩|⟨rfl,g2,g3⟩
   .exact .inl ⟨avu,oL,by simp[g3]⟩
   .exact .inr (.inl ⟨avu,oL,by simp[g3]⟩)
   .exact .inr (.inr ⟨rfl,oL,oL⟩)
theorem lt_trans:∀{a b c:List UInt8},lt a b=true->lt b c=true->lt a c=true
 |_,[],_,h,_=>by simp[lt,Op.bytesLess]at h
 |_,_::_,[],_,h=>by simp[lt,Op.bytesLess]at h
 |[],_::_,_::_,_,_=>rfl
 |x::a,y::b,z::c,h1,h2=>by
  simp only[lt,Op.bytesLess,kU,gY,fG,beq_iff_eq]at h1 h2⊢;rcases h1 with h1|⟨rfl,h1⟩
  .rcases h2 with h2|⟨rfl,h2⟩
   .exact .inl (iw.2 (by have:=iw.1 h1;have:=iw.1 h2;omega))
   .exact .inl h1
  .rcases h2 with h2|⟨rfl,h2⟩
   .exact .inl h2
   .exact .inr ⟨rfl,lt_trans (a:=a) (b:=b) (c:=c) h1 h2⟩
def le(a b:List UInt8):Prop:=lt b a=false
theorem le_refl(a:List UInt8):le a a:=lt_irrefl a
theorem le_of_lt{a b:List UInt8}(h:lt a b=true):le a b:=by
 rcases GU a b with⟨_,h2,_⟩|⟨_,h2,_⟩|⟨_,h2,_⟩
 .exact h2
 .rw[h]at h2;cases h2
 .rw[h]at h2;cases h2
theorem le_trans{a b c:List UInt8}(h1:le a b)(h2:le b c):le a c:=by
 unfold le at*;rcases GU a c with⟨_,h,_⟩|⟨h,_,_⟩|⟨_,_,h⟩
 .exact h
 .exfalso;rcases GU a b with⟨g,_,_⟩|⟨g,_,_⟩|⟨rfl,_,_⟩
  .have:=lt_trans h g;rw[h2]at this;cases this
  .rw[h1]at g;cases g
  .rw[h2]at h;cases h
 .exact h
theorem lt_of_le_ne{a b:List UInt8}(h:le a b)(hn:a≠b):lt a b=true:=by
 rcases GU a b with⟨g,_,_⟩|⟨g,_,_⟩|⟨e,_,_⟩
 .exact g
 .unfold le at h;rw[h]at g;cases g
 .exact absurd e hn
theorem OA(a b:List UInt8):(Op.bytesLess a b||a==b)=true↔le a b:=by
 rcases GU a b with⟨g1,g2,_⟩|⟨g1,g2,g3⟩|⟨rfl,g2,g3⟩
 .simp only[lt]at g1 g2;simp[le,g1,g2]
 .simp only[lt]at g1 g2;simp[le,g1,g2,g3]
 .simp only[lt]at g2;simp[le,g2]
structure qY where
 k:List UInt8
 a:Option Addr
 l:Nat
 c:Nat
def qY.d(e:qY):Value:=.slice e.a e.l e.c
def qN(n:Nat)(f g:Nat->qY):Prop:=∃σ τ:Nat->Nat,(∀i,i<n->σ i<n/\τ i<n/\τ (σ i)=i/\σ (τ i)=i)/\∀i,i<n->g i=f (σ i)
theorem qN.refl(n:Nat)(f:Nat->qY):qN n f f:=⟨id,id,λ_ h=>⟨h,h,rfl,rfl⟩,λ_ _=>rfl⟩
theorem qN.symm{n:Nat}{f g:Nat->qY}(a:qN n f g):qN n g f:=by obtain⟨σ,τ,s,t⟩:=a;exact⟨τ,σ,λi hi=>⟨(s i hi).2.1,(s i hi).1,(s i hi).2.2.2,(s i hi).2.2.1⟩,λi hi=>by rw[t _ (s i hi).2.1,(s i hi).2.2.2]⟩
theorem qN.trans{n:Nat}{f g h:Nat->qY}(a:qN n f g)(b:qN n g h):qN n f h:=by obtain⟨σ,σ',s1,s2⟩:=a;obtain⟨τ,τ',t1,t2⟩:=b;refine⟨λi=>σ (τ i),λi=>τ' (σ' i),λi hi=>?_,λi hi=>by rw[t2 i hi,s2 _ (t1 i hi).1]⟩;have a1:=t1 i hi;have a2:=s1 (τ i) a1.1;have b1:=s1 i hi;have b2:=t1 (σ' i) b1.2.1;exact⟨a2.1,b2.2.1,by show τ' (σ' (σ (τ i)))=i;rw[a2.2.2.1,a1.2.2.1],by show σ (τ (τ' (σ' i)))=i;rw[b2.2.2.2,b1.2.2.2]⟩
theorem qN.congr{n:Nat}{f g h:Nat->qY}(a:qN n f g)(b:∀i,i<n->g i=h i):qN n f h:=by obtain⟨σ,τ,s1,s2⟩:=a;exact⟨σ,τ,s1,λi hi=>(b i hi).symm.trans (s2 i hi)⟩
theorem qN.from{n:Nat}{f g:Nat->qY}(a:qN n f g){i:Nat}(hi:i<n):∃j,j<n/\g i=f j:=by obtain⟨σ,τ,s1,s2⟩:=a;exact⟨σ i,(s1 i hi).1,s2 i hi⟩
theorem qN.two{n:Nat}{f g:Nat->qY}(a:qN n f g){i j:Nat}(hi:i<n)(hj:j<n)(VG:i≠j):∃i' j',i'<n/\j'<n/\i'≠j'/\g i=f i'/\g j=f j':=by obtain⟨σ,τ,s1,s2⟩:=a;exact⟨σ i,σ j,(s1 i hi).1,(s1 j hj).1,λe=>VG (by rw[<-(s1 i hi).2.2.1,e,(s1 j hj).2.2.1]),s2 i hi,s2 j hj⟩
def swp(f:Nat->qY)(i j:Nat):Nat->qY:=λx=>if x=i then f j else if x=j then f i else f x
theorem qN.swp{n i j:Nat}(f:Nat->qY)(hi:i<n)(hj:j<n):qN n f (swp f i j):=by
 have key:∀x,x<n->(if x=i then j else if x=j then i else x)<n/\(if(if x=i then j else if x=j then i else x)=i then j else if(if x=i then j else if x=j then i else x)=j then i else(if x=i then j else if x=j then i else x))=x:=λx hx=>by
  by_cases e1:x=i
  .rw[aj e1];by_cases e2:j=i
   .rw[aj e2];exact⟨hj,ae⟩
   .rw[ah e2,aj rfl];exact⟨hj,e1.symm⟩
  .rw[ah e1];by_cases e2:x=j
   .rw[aj e2,aj rfl];exact⟨hi,e2.symm⟩
   .rw[ah e2,ah e1,ah e2];exact⟨hx,rfl⟩
 refine⟨λx=>if x=i then j else if x=j then i else x,λx=>if x=i then j else if x=j then i else x,λx hx=>⟨(key x hx).1,(key x hx).1,(key x hx).2,(key x hx).2⟩,λx hx=>?_⟩;unfold Hp.swp;dsimp only;split
 .rfl
 .split<;>rfl
theorem qN.snoc{n:Nat}{f g:Nat->qY}(a:qN n f g){f' g':Nat->qY}(hf:∀i,i<n->f' i=f i)(hg:∀i,i<n->g' i=g i)(he:f' n=g' n):qN (n+1) f' g':=by
 obtain⟨σ,τ,s1,s2⟩:=a;refine⟨λi=>if i=n then n else σ i,λi=>if i=n then n else τ i,λi hi=>?_,λi hi=>?_⟩
 .by_cases e:i=n
  .simp only[aj e,aF];exact⟨ae,ae,e.symm,e.symm⟩
  .have a1:=s1 i ae;simp only[ah e,ah (show¬σ i=n by omega),ah (show¬τ i=n by omega)];exact⟨ae,ae,a1.2.2.1,a1.2.2.2⟩
 .dsimp only;split
  .rename_i e;rw[e,he]
  .rw[hg i ae,s2 i ae,hf _ (s1 i ae).1]
theorem qN.tail{n m k:Nat}{o g g':Nat->qY}(a:qN k g g')(h:m+k=n):qN n (λx=>if x<m then o x else g (x-m)) (λx=>if x<m then o x else g' (x-m)):=by
 obtain⟨σ,τ,s1,s2⟩:=a;refine⟨λx=>if x<m then x else m+σ (x-m),λx=>if x<m then x else m+τ (x-m),λx hx=>?_,λx hx=>?_⟩
 .by_cases e:x<m
  .exact axI
  .have a1:=s1 (x-m) ae;simp only[ah e,ah (show¬m+σ (x-m)<m by omega),ah (show¬m+τ (x-m)<m by omega),gZ,a1.2.2.1,a1.2.2.2];exact⟨ae,ae,ae,ae⟩
 .by_cases e:x<m
  .simp only[aj e]
  .simp only[ah e,ah (show¬m+σ (x-m)<m by omega),gZ];exact s2 _ ae
theorem qN.akL{n m k:Nat}{o g:Nat->qY}(h:m+(k+1)=n):qN n (λx=>if x<m then o x else g (x-m)) (λx=>if x<m+1 then(if x=m then g 0 else o x)else(if x-(m+1)=0 then g k else g (x-(m+1)))):=by
 refine⟨λx=>if x<=m then x else if x=m+1 then n-1 else x-1,λx=>if x<=m then x else if x=n-1 then m+1 else x+1,λx hx=>?_,λx hx=>?_⟩
 .by_cases e:x<=m
  .exact axI
  .by_cases e2:x=m+1
   .simp only[ah e,aj e2,ah (show¬n-1<=m by omega),aF];by_cases e3:x=n-1
    .exact axu
    .exact ax9
   .simp only[ah e,ah e2,ah (show¬x-1<=m by omega),ah (show¬x-1=n-1 by omega)];by_cases e3:x=n-1
    .exact axu
    .exact ax9
 .by_cases e:x<=m
  .simp only[aj e,aj (show x<m+1 by omega)];by_cases e2:x=m
   .rw[aj e2,ah ae,e2,kD]
   .rw[ah e2,aj ae]
  .by_cases e2:x=m+1
   .simp only[ah e,aj e2,ah (show¬x<m+1 by omega),ah (show¬n-1<m by omega),aj (show x-(m+1)=0 by omega)]
    congr 1
    omega
   .simp only[ah e,ah e2,ah (show¬x<m+1 by omega),ah (show¬x-1<m by omega),ah (show¬x-(m+1)=0 by omega)]
    congr 1
    omega
def Hp(f:Nat->qY)(n:Nat):Prop:=∀c,0<c->c<n->le (f ((c-1)/2)).k (f c).k
def abj(f:Nat->qY)(n i:Nat):Prop:=(∀c,0<c->c<n->c≠i->le (f ((c-1)/2)).k (f c).k)/\∀c,0<c->c<n->(c-1)/2=i->0<i->le (f ((i-1)/2)).k (f c).k
def abk(f:Nat->qY)(n i:Nat):Prop:=(∀c,0<c->c<n->(c-1)/2≠i->le (f ((c-1)/2)).k (f c).k)/\∀c,0<c->c<n->(c-1)/2=i->0<i->le (f ((i-1)/2)).k (f c).k
theorem Tq{f:Nat->qY}{n i:Nat}(h:abj f n i)(hs:0<i->le (f ((i-1)/2)).k (f i).k):Hp f n:=λc h0 hc=>by
 by_cases e:c=i
 .subst e;exact hs h0
 .exact h.1 c h0 hc e
theorem ae6{f:Nat->qY}{n i:Nat}(h:abj f n i)(Af:0<i)(hi:i<n)(hl:lt (f i).k (f ((i-1)/2)).k=true):abj (swp f ((i-1)/2) i) n ((i-1)/2):=by
 have hp:(i-1)/2<i:=ae;generalize hpi:(i-1)/2=p at*;refine⟨λc h0 hc hne=>?_,λc h0 hc hcp hp0=>?_⟩
 .by_cases e:c=i
  .subst e;rw[hpi];unfold swp;rw[aj rfl,ah ae,aj rfl];exact le_of_lt hl
  .by_cases e2:(c-1)/2=i
   .unfold swp;rw[e2,ah ae,aj rfl,ah hne,ah e];have:=h.2 c h0 hc e2 Af;rw[hpi]at this;exact this
   .by_cases e3:(c-1)/2=p
    .unfold swp;rw[e3,aj rfl,ah hne,ah e];have:=h.1 c h0 hc e;rw[e3]at this;exact le_trans (le_of_lt hl) this
    .unfold swp;rw[ah e3,ah e2,ah hne,ah e];exact h.1 c h0 hc e
 .have hq:(p-1)/2<p:=ae;have hpp:=h.1 p hp0 ae ae;unfold swp;rw[ah (show¬(p-1)/2=p by omega),ah (show¬(p-1)/2=i by omega),ah (show¬c=p by omega)];by_cases e:c=i
  .rw[aj e];exact hpp
  .rw[ah e];have:=h.1 c h0 hc e;rw[hcp]at this;exact le_trans hpp this
theorem ae7{f:Nat->qY}{n i:Nat}(h:abk f n i)(hs:∀c,0<c->c<n->(c-1)/2=i->le (f i).k (f c).k):Hp f n:=λc h0 hc=>by
 by_cases e:(c-1)/2=i
 .rw[e];exact hs c h0 hc e
 .exact h.1 c h0 hc e
theorem ae8{f:Nat->qY}{n i c:Nat}(h:abk f n i)(hc0:0<c)(hc:c<n)(hci:(c-1)/2=i)(hl:lt (f c).k (f i).k=true)(hm:∀c',0<c'->c'<n->(c'-1)/2=i->le (f c).k (f c').k):abk (swp f c i) n c:=by
 have hic:i<c:=ae;refine⟨λx h0 hx hne=>?_,λx h0 hx hxc _=>?_⟩
 .by_cases e:(x-1)/2=i
  .unfold swp;rw[e,ah ae,aj rfl];by_cases e2:x=c
   .rw[aj e2];exact le_of_lt hl
   .rw[ah e2,ah ae];exact hm x h0 hx e
  .unfold swp;rw[ah hne,ah e];by_cases e2:x=c
   .subst e2;exact absurd hci e
   .rw[ah e2];by_cases e3:x=i
    .subst e3;rw[aj rfl];exact h.2 c hc0 hc hci h0
    .rw[ah e3];exact h.1 x h0 hx e
 .unfold swp;rw[hci,ah (show¬i=c by omega),aj rfl,ah (show¬x=c by omega),ah (show¬x=i by omega)];have:=h.1 x h0 hx ae;rw[hxc]at this;exact this
theorem YZ{f:Nat->qY}{n:Nat}(h:Hp f n):∀i,i<n->le (f 0).k (f i).k:=by
 intro i
 induction i using Nat.strongRecOn with
 |_ i ih=>
  intro hi;rcases dK i with rfl|h0
  .exact le_refl _
  .exact le_trans (ih ((i-1)/2) ae ae) (h i h0 hi)
end Go.Hp
namespace Go.Proofs.Y
open Go.Proofs.Tryz
open Go.RowKit Go.Deep Go.Hp
def ry(k:List UInt8):Value:=.string ⟨k.toArray⟩
def abl(e:qY):List Value:=[ry e.k,ry e.k,e.d]
def Ji(n:Nat)(f:Nat->qY):List Value:=(List.range n).flatMap λi=>abl (f i)
theorem wo(n:Nat)(f:Nat->qY):(Ji n f).length=n*3:=by
 induction n with
 |zero=>rfl
 |succ n ih=>
  unfold Ji at*;rw[dC,mG,aS,ih];simp[abl];omega
theorem Gn(n:Nat)(f:Nat->qY):Ji (n+1) f=Ji n f++abl (f n):=by unfold Ji;rw[dC,mG];simp
theorem Jy(n:Nat)(f:Nat->qY)(i p:Nat)(hi:i<n)(hp:p<3):(Ji n f)[i*3+p]?=(abl (f i))[p]?:=by
 induction n with
 |zero=>omega
 |succ n ih=>
  rw[Gn];by_cases e:i=n
  .subst e;rw[iW mY,wo,show i*3+p-i*3=p by omega]
  .rw[fF mY,ih ae]
theorem UT{n:Nat}{f g:Nat->qY}(h:∀i,i<n->f i=g i):Ji n f=Ji n g:=by
 induction n with
 |zero=>rfl
 |succ n ih=>rw[Gn,Gn,ih λi hi=>h i ae,h n ae]
theorem UU(n:Nat)(f:Nat->qY)(i:Nat)(hi:i<n)(e:qY):(((Ji n f).set (i*3) (ry e.k)).set (i*3+1) (ry e.k)).set (i*3+2) e.d=Ji n (λx=>if x=i then e else f x):=by
 apply iY;intro m;by_cases hm:m<n*3
 .have hq:m=m/3*3+m%3:=ae;have hq3:m%3<3:=ae;generalize m/3=q at hq;generalize m%3=p at hq hq3;subst hq;rw[Jy n _ q p ae hq3];have hold:=Jy n f q p ae hq3;simp only[mr,List.length_set,wo];by_cases e1:q=i
  .subst e1;rw[aj rfl];have:p=0\/p=1\/p=2:=ae;rcases this with rfl|rfl|rfl
   .rw[ah ae,ah ae,aj ae,aj ae];rfl
   .rw[ah ae,aj ae,aj ae];rfl
   .rw[aj ae,aj ae];rfl
  .rw[ah ae,ah ae,ah ae,hold,ah e1]
 .rw[gG (by simp[wo];omega),gG mY]
structure Bt(o:Option Nat)(w w':World):Prop where
 os:w'.os=w.os
 tape:w'.tape=w.tape
 output:w'.output=w.output
 size:w.heap.size<=w'.heap.size
 block:∀b,b<w.heap.size->some b≠o->w'.heap[b]?=w.heap[b]?
theorem Bt.refl(o:Option Nat)(w:World):Bt o w w:=⟨rfl,rfl,rfl,ak _,λ_ _ _=>rfl⟩
theorem Bt.trans{o:Option Nat}{a b c:World}(h:Bt o a b)(k:Bt o b c):Bt o a c:=⟨k.os.trans h.os,k.tape.trans h.tape,k.output.trans h.output,aJ h.size k.size,λx hx hn=>(k.block x (aK hx h.size) hn).trans (h.block x hx hn)⟩
theorem Bt.drew{o:Option Nat}{a w:World}(h:Bt o a w)(n:Nat):Bt o a (w.drewN n):=⟨h.os,h.tape,h.output,h.size,h.block⟩
theorem Bt.set{o:Option Nat}{a w:World}(h:Bt o a w){g p:Nat}(hg:o=some g)(v:Value):Bt o a (w.setCell ⟨g,p,none⟩ v):=
 ⟨h.os,h.tape,h.output,aut,λb hb hn=>(bF _ _ _ _ (λe:b=g=>hn (by rw[e,hg]))).trans (h.block b hb hn)⟩
theorem Bt.below{o:Option Nat}{w w':World}{B:Nat}(h:Bt o w w')(hB:B<=w.heap.size)(ho:∀g,o=some g->B<=g):Below B w w':=
 ⟨h.os,h.tape,h.output,h.size,λb hb=>h.block b ae (λe=>by have:=ho b e.symm;omega)⟩
structure HA(B h n:Nat)(f:Nat->qY)(v:Value)(w:World):Prop where
 var:w.rowIs h 68 1 (λ_=>v)
 own:w.ownsRow B 97 3 v n (Ji n f)
 low:h<B
theorem HA.form{B h n:Nat}{f:Nat->qY}{v:Value}{w:World}(H:HA B h n f v w)(hn:0<n):∃g cap,v=.slice (some ⟨g,0,none⟩) n cap/\B<=g/\n<=cap/\cap<=maxLen:=by
 rcases H.own.2 with⟨_,rfl⟩|⟨g,cap,cur,h1,h2,h3,h4,h5,_⟩
 .omega
 .exact⟨g,cap,h1,h2,h4,h5⟩
theorem HA.at{B h n g cap:Nat}{f:Nat->qY}{w:World}(H:HA B h n f (.slice (some ⟨g,0,none⟩) n cap) w)(i:Nat)(hi:i<n):w.cell? ⟨g,i*3,none⟩=some (ry (f i).k)/\w.cell? ⟨g,i*3+1,none⟩=some (ry (f i).k)/\w.cell? ⟨g,i*3+2,none⟩=some (f i).d:=by have h0:=Jy n f i 0 hi ae;have h1:=Jy n f i 1 hi ae;have h2:=Jy n f i 2 hi ae;exact⟨by rw[H.own.cellAt (i*3) ae];exact h0,by rw[H.own.cellAt (i*3+1) ae];exact h1,by rw[H.own.cellAt (i*3+2) ae];exact h2⟩
theorem HA.drew{B h n:Nat}{f:Nat->qY}{v:Value}{w:World}(H:HA B h n f v w)(m:Nat):HA B h n f v (w.drewN m):=⟨H.var,H.own,H.low⟩
def MV(n:Nat)(f:Nat->qY)(i j:Nat):Nat:=if j<n/\Hp.lt (f j).k (f i).k=true then j else i
theorem UW(B h n i j:Nat)(f:Nat->qY)(v:Value)(w:World)(H:HA B h n f v w)(VG:j<n->i<n)(hj:j<4611686018427387904):
  Calls prog 75 #[.pointer (some ⟨h,0,none⟩),.int .i64 ((i:Nat):Int),.int .i64 ((j:Nat):Int)] w λe w'=>e=.returned (.int .i64 ((MV n f i j:Nat):Int))/\∃m,w'=w.drewN m:=by
 have a0:=H.var.cell (i:=0) ae;by_cases hjn:j<n
 .obtain⟨g,cap,rfl,hg,hnc,sF⟩:=H.form ae;have hd:decide ((j:Int)<(n:Int))=true:=az;have Pq:(j:Int)<(n:Int):=ae;have JQ:(i:Int)<(n:Int):=by have:=VG hjn;omega
  have cj:=(H.at j hjn).1;have ci:=(H.at i (VG hjn)).1;unfold ry at cj ci;rcases hq:Hp.lt (f j).k (f i).k with _|_
  .have hr:MV n f i j=i:=by unfold MV;rw[ah (λx=>by rw[hq]at x;exact absurd x.2 ai)]
   rw[hr];simp only[Hp.lt]at hq;clear H VG;go_enter func75,ntmps75
   go_wp2_with fail
   go_big_quiet (fail)
   exact awD
  .have hr:MV n f i j=j:=by unfold MV;rw[aj ⟨hjn,hq⟩]
   rw[hr];simp only[Hp.lt]at hq;clear H VG;go_enter func75,ntmps75
   go_wp2_with fail
   go_big_quiet (fail)
   exact awD
 .have hr:MV n f i j=i:=avo;rw[hr];have hd:decide ((j:Int)<(n:Int))=false:=az
  obtain⟨bo,cap,rfl⟩:∃bo cap,v=.slice bo n cap:=by exact awO
  clear H VG;go_enter func75,ntmps75
  go_wp2_with fail
  go_big_quiet (fail)
  exact awD
theorem HA.swap{B h n g cap i j:Nat}{f:Nat->qY}{w:World}(H:HA B h n f (.slice (some ⟨g,0,none⟩) n cap) w)(hi:i<n)(hj:j<n)(hg:B<=g):
  HA B h n (swp f i j) (.slice (some ⟨g,0,none⟩) n cap) ((((((w.setCell ⟨g,i*3,none⟩ (ry (f j).k)).setCell ⟨g,i*3+1,none⟩ (ry (f j).k)).setCell ⟨g,i*3+2,none⟩ (f j).d).setCell ⟨g,j*3,none⟩ (ry (f i).k)).setCell ⟨g,j*3+1,none⟩ (ry (f i).k)).setCell ⟨g,j*3+2,none⟩ (f i).d):=by
 have hne:h≠g:=by have:=H.low;omega
 have o:=(((((H.own.stored (i*3) (ry (f j).k)).1.stored (i*3+1) (ry (f j).k)).1.stored (i*3+2) (f j).d).1.stored (j*3) (ry (f i).k)).1.stored (j*3+1) (ry (f i).k)).1.stored (j*3+2) (f i).d;have o1:=o.1;rw[UU n f i hi (f j),UU n _ j hj (f i)]at o1;refine⟨(((((H.var.setOther (a:=⟨g,i*3,none⟩) hne _).setOther (a:=⟨g,i*3+1,none⟩) hne _).setOther (a:=⟨g,i*3+2,none⟩) hne _).setOther (a:=⟨g,j*3,none⟩) hne _).setOther (a:=⟨g,j*3+1,none⟩) hne _).setOther (a:=⟨g,j*3+2,none⟩) hne _,?_,H.low⟩
 have e:Ji n (λx=>if x=j then f i else if x=i then f j else f x)=Ji n (swp f i j):=UT λx _=>by
  unfold swp;by_cases e1:x=i
  .by_cases e2:x=j
   .rw[aj e2,aj e1,<-e1,<-e2]
   .rw[ah e2,aj e1,aj e1]
  .rw[ah e1,ah e1]
 rw[<-e];exact o1
theorem acx(B h n i j:Nat)(f:Nat->qY)(v:Value)(w:World)(H:HA B h n f v w)(hi:i<n)(hj:j<n):
  Calls prog 74 #[.pointer (some ⟨h,0,none⟩),.int .i64 ((i:Nat):Int),.int .i64 ((j:Nat):Int)] w λe w'=>e=.returned (.tuple #[])/\HA B h n (swp f i j) v w'/\Bt v.ownBlock w w':=by
 have a0:=H.var.cell (i:=0) ae;obtain⟨g,cap,rfl,hg,hnc,sF⟩:=H.form ae;have JQ:(i:Int)<(n:Int):=ae;have Pq:(j:Int)<(n:Int):=ae;obtain⟨ci0,ci1,ci2⟩:=H.at i hi;obtain⟨cj0,cj1,cj2⟩:=H.at j hj;have H2:=H.swap hi hj hg;have hb:Bt (some g) w ((((((w.setCell ⟨g,i*3,none⟩ (ry (f j).k)).setCell ⟨g,i*3+1,none⟩ (ry (f j).k)).setCell ⟨g,i*3+2,none⟩ (f j).d).setCell ⟨g,j*3,none⟩ (ry (f i).k)).setCell ⟨g,j*3+1,none⟩ (ry (f i).k)).setCell ⟨g,j*3+2,none⟩ (f i).d):=((((((Bt.refl (some g) w).set rfl _).set rfl _).set rfl _).set rfl _).set rfl _).set rfl _;have ex:∀{w:World}{xs:List Value},w.ownsRow B 97 3 (.slice (some ⟨g,0,none⟩) n cap) n xs->∀p,p<n*3->∃y,w.cell? ⟨g,p,none⟩=some y:=λ{w xs} o p hp=>⟨xs[p]' auP,auO⟩;have o0:=H.own;have z0:=o0.frozenAt (i*3);have o1:=(o0.stored (i*3) (ry (f j).k)).1;obtain⟨y1,e1⟩:=ex o1 (i*3+1) ae;have z1:=o1.frozenAt (i*3+1);have o2:=(o1.stored (i*3+1) (ry (f j).k)).1;obtain⟨y2,e2⟩:=ex o2 (i*3+2) ae;have z2:=o2.frozenAt (i*3+2);have o3:=(o2.stored (i*3+2) (f j).d).1;obtain⟨y3,e3⟩:=ex o3 (j*3) ae;have z3:=o3.frozenAt (j*3);have o4:=(o3.stored (j*3) (ry (f i).k)).1;obtain⟨y4,e4⟩:=ex o4 (j*3+1) ae;have z4:=o4.frozenAt (j*3+1);have o5:=(o4.stored (j*3+1) (ry (f i).k)).1;obtain⟨y5,e5⟩:=ex o5 (j*3+2) ae;have z5:=o5.frozenAt (j*3+2);clear o0 o1 o2 o3 o4 o5 ex H;unfold ry qY.d at*;go_enter func74,ntmps74;go_wp2;go_region;go_end0;clear a0 ci0 ci1 ci2 cj0 cj1 cj2 e1 e2 e3 e4 e5 z0 z1 z2 z3 z4 z5;generalize((((((w.setCell ⟨g,i*3,none⟩ (.string ⟨(f j).k.toArray⟩)).setCell ⟨g,i*3+1,none⟩ (.string ⟨(f j).k.toArray⟩)).setCell ⟨g,i*3+2,none⟩ (.slice (f j).a (f j).l (f j).c)).setCell ⟨g,j*3,none⟩ (.string ⟨(f i).k.toArray⟩)).setCell ⟨g,j*3+1,none⟩ (.string ⟨(f i).k.toArray⟩)).setCell ⟨g,j*3+2,none⟩ (.slice (f i).a (f i).l (f i).c))=W at H2 hb⊢;exact⟨rfl,⟨H2.var,H2.own,H2.low⟩,⟨hb.os,hb.tape,hb.output,hb.size,hb.block⟩⟩
def abm(B h n:Nat)(f:Nat->qY)(v:Value)(w:World)(e:Ending)(w':World):Prop:=e=.returned (.tuple #[])/\∃f',HA B h n f' v w'/\qN n f f'/\Hp f' n/\Bt v.ownBlock w w'
theorem ady(B h n i:Nat)(f:Nat->qY)(v:Value)(w:World)(H:HA B h n f v w)(hi:i<n)(hu:abj f n i):
  Calls prog 41 #[.pointer (some ⟨h,0,none⟩),.int .i64 ((i:Nat):Int)] w λe w'=>abm B h n f v w e w':=by
 obtain⟨g,cap,rfl,hg,hnc,sF⟩:=H.form ae;have Xe:cap<=9223372036854775807:=sF;clear sF;go_enter func41,ntmps41;go_wp2
 go_loopw [1,4] (λvi _ wr=>∃(i:Nat)(f':Nat->qY),i<n/\vi=.int .i64 ((i:Nat):Int)/\HA B h n f' (.slice (some ⟨g,0,none⟩) n cap) wr/\qN n f f'/\abj f' n i/\Bt (some g) w wr) (λvi _ _=>(intOf vi).toNat)
 case atStart=>exact⟨i,f,hi,rfl,H,qN.refl n f,hu,Bt.refl _ _⟩
 case round=>
  clear H hi hu;obtain⟨i,f',hi,rfl,H,hR,hu,hb⟩:=hrel;by_cases h0:0<i
  .have h0':(0:Int)<(i:Int):=ae;have a0:=H.var.cell (i:=0) ae;have hp:(i-1)/2<i:=ae
   have hq:Int.tdiv ((i:Int)-1) 2=(((i-1)/2:Nat):Int):=by rw[aui ae];omega
   have c1:=(H.at ((i-1)/2) ae).1;have c2:=(H.at i hi).1;unfold ry at c1 c2;have cs:=λm=>acx B h n ((i-1)/2) i f' _ (wr.drewN m) (H.drew m) ae hi
   have hus:=λhl=>ae6 hu h0 hi hl
   have uw:=λhl=>Tq hu (λ_=>hl)
   have hRs:=hR.trans (qN.swp f' (show(i-1)/2<n by omega) hi);generalize hpp:(i-1)/2=p at*;have hp':(p:Int)<(n:Int):=ae;have JQ:(i:Int)<(n:Int):=ae;rcases hle:(Op.bytesLess (f' p).k (f' i).k||(f' p).k==(f' i).k)with _|_
   .have hl:Hp.lt (f' i).k (f' p).k=true:=by
     rcases hx:Hp.lt (f' i).k (f' p).k with _|_
     .have:=(OA (f' p).k (f' i).k).2 hx;rw[hle]at this;cases this
     .rfl
    have aoP:=hus hl;clear hus uw hl
    go_wp2_with fail
    go_big_quiet (fail)
    have cs':=cs nq;have hbq:=hb.drew nq;have hbs:=hbq.size;clear cs H hb;generalize wr.drewN nq=wq at*
    go_wp2_with(first|(go_at_call 74;(with_reducible refine cs'.mono ?_);rintro e w2 ⟨rfl,hH2,sZ⟩))
    go_roundw
    case rel=>exact⟨p,_,ae,rfl,hH2,hRs,aoP,hbq.trans sZ⟩
    case measure=>simp[intOf];omega
   .have hl:=uw ((OA (f' p).k (f' i).k).1 hle);clear hus uw
    go_wp2_with fail
    go_big_quiet (fail)
    have H2:=H.drew nq;have hbq:=hb.drew nq;clear cs H hb;generalize wr.drewN nq=wq at*;go_wp2;go_end0;exact⟨rfl,f',H2,hR,hl,hbq⟩
  .have h0':¬((0:Int)<(i:Int)):=ae;go_wp2;go_end0;exact ax1
theorem ae9(n:Nat)(f:Nat->qY)(i:Nat):(MV n f (2*i+1) (2*i+2)=2*i+1\/MV n f (2*i+1) (2*i+2)=2*i+2)/\((MV n f (2*i+1) (2*i+2))<n->∀c,0<c->c<n->(c-1)/2=i->le (f (MV n f (2*i+1) (2*i+2))).k (f c).k)/\(MV n f (2*i+1) (2*i+2)<n\/∀c,0<c->c<n->(c-1)/2≠i):=by
 have hc:∀c,0<c->(c-1)/2=i->c=2*i+1\/c=2*i+2:=λc h0 h=>ae
 by_cases h:2*i+2<n/\Hp.lt (f (2*i+2)).k (f (2*i+1)).k=true
 .have e:MV n f (2*i+1) (2*i+2)=2*i+2:=by unfold MV;rw[aj h]
  rw[e];refine⟨.inr rfl,λ_ c h0 hcn hci=>?_,.inl h.1⟩;rcases hc c h0 hci with rfl|rfl
  .exact le_of_lt h.2
  .exact le_refl _
 .have e:MV n f (2*i+1) (2*i+2)=2*i+1:=by unfold MV;rw[ah h]
  rw[e];refine⟨.inl rfl,λ_ c h0 hcn hci=>?_,?_⟩
  .rcases hc c h0 hci with rfl|rfl
   .exact le_refl _
   .rcases hx:Hp.lt (f (2*i+2)).k (f (2*i+1)).k with _|_
    .exact hx
    .exact absurd ⟨hcn,hx⟩ h
  .by_cases hn:2*i+1<n
   .exact .inl hn
   .refine .inr λc h0 hcn hci=>?_
    rcases hc c h0 hci with rfl|rfl<;>omega
theorem Zj(B h n i:Nat)(f:Nat->qY)(v:Value)(w:World)(H:HA B h n f v w)(hn:n<=4398046511104)(hi:i<n\/i=0)(hu:abk f n i):
  Calls prog 42 #[.pointer (some ⟨h,0,none⟩),.int .i64 ((i:Nat):Int)] w λe w'=>abm B h n f v w e w':=by
 go_enter func42,ntmps42;go_wp2
 go_loopw [1,4] (λvi _ wr=>∃(i:Nat)(f':Nat->qY),(i<n\/i=0)/\vi=.int .i64 ((i:Nat):Int)/\HA B h n f' v wr/\qN n f f'/\abk f' n i/\Bt v.ownBlock w wr) (λvi _ _=>n-(intOf vi).toNat)
 case atStart=>exact⟨i,f,hi,rfl,H,qN.refl n f,hu,Bt.refl _ _⟩
 case round=>
  clear H hi hu;obtain⟨i,f',hi,rfl,H,hR,hu,hb⟩:=hrel;obtain⟨l1,l2,l3⟩:=ae9 n f' i;have k1:=UW B h n (2*i+1) (2*i+2) f' v wr H ae ae;generalize ha:MV n f' (2*i+1) (2*i+2)=a at*;have k2:=λw' (H':HA B h n f' v w')=>UW B h n i a f' v w' H' (λ_=>ae) ae
  have dr:∀{w1 w2:World},HA B h n f' v w1->Bt v.ownBlock w w1->(∃m,w2=w1.drewN m)->HA B h n f' v w2/\Bt v.ownBlock w w2:=λ{w1 w2} h1 h2 ⟨m,e⟩=>avr;have e1:2*((i:Nat):Int)+1=((2*i+1:Nat):Int):=ae;have e2:2*((i:Nat):Int)+2=((2*i+2:Nat):Int):=ae;by_cases hx:a<n/\Hp.lt (f' a).k (f' i).k=true
  .have el:MV n f' i a=a:=by unfold MV;rw[aj hx]
   have O9:i<n:=ae;rw[el]at k2;have hs:=ae8 hu (show 0<a by omega) hx.1 ae hx.2 (l2 hx.1);have cs:=λw' (H':HA B h n f' v w')=>acx B h n a i f' v w' H' hx.1 O9
   have hRs:=hR.trans (qN.swp f' hx.1 O9);have hne:((a:Int)==(i:Int))=false:=az;have qE:=hx.1;clear hx el l2 l3 hu ha;generalize Gz:2*i+1=i1 at*;generalize hi3:2*i+2=i2 at*
   go_wp2_with(first
    |(go_at_call 75;(with_reducible refine k1.mono ?_);rintro e w1 ⟨rfl,BB⟩;(obtain⟨H1,t_⟩:=dr H hb BB);clear BB H hb k1)
    |(go_at_call 75;(with_reducible refine(k2 _ H1).mono ?_);rintro e w2 ⟨rfl,xG⟩;(obtain⟨H2,sZ⟩:=dr H1 t_ xG);clear xG H1 t_ k2)
    |(go_at_call 74;(with_reducible refine(cs _ H2).mono ?_);rintro e w3 ⟨rfl,H3,vK⟩))
   go_roundw
   case rel=>exact⟨a,_,.inl qE,rfl,H3,hRs,hs,sZ.trans vK⟩
   case measure=>simp[intOf];omega
  .have el:MV n f' i a=i:=by unfold MV;rw[ah hx]
   rw[el]at k2
   have hs:Hp f' n:=ae7 hu λc h0 hc hci=>by
    rcases l3 with l3|l3
    .rcases hy:Hp.lt (f' a).k (f' i).k with _|_
     .exact le_trans hy (l2 l3 c h0 hc hci)
     .exact absurd ⟨l3,hy⟩ hx
    .exact absurd hci (l3 c h0 hc)
   have hne:((i:Int)==(i:Int))=true:=ai;clear hx el l2 l3 hu ha;generalize Gz:2*i+1=i1 at*;generalize hi3:2*i+2=i2 at*
   go_wp2_with(first
    |(go_at_call 75;(with_reducible refine k1.mono ?_);rintro e w1 ⟨rfl,BB⟩;(obtain⟨H1,t_⟩:=dr H hb BB);clear BB H hb k1)
    |(go_at_call 75;(with_reducible refine(k2 _ H1).mono ?_);rintro e w2 ⟨rfl,xG⟩;(obtain⟨H2,sZ⟩:=dr H1 t_ xG);clear xG H1 t_ k2))
   go_end0;exact⟨rfl,f',H2,hR,hs,sZ⟩
theorem Tryz.amf:(prog.info? 97).map (λi=>(i.zero,i.size,i.bytes))=some (some (.agg #[.string ⟨#[]⟩,.string ⟨#[]⟩,.slice none 0 0]),3,56):=ag
theorem ajw(e:qY):∀u∈abl e,u.oneCell'=true:=by
 intro u hu;simp[abl]at hu;rcases hu with rfl|rfl
 .rfl
 .rfl
theorem UX(w:World)(x y z:Value)(t:TypeId):∀j u,[x,y,z][j]?=some u->(w.alloc (.cells #[x,y,z] t)).cell? ((⟨w.heap.size,0,none⟩:Addr).add j)=some u:=by
 intro j u hj
 match j,hj with
 |0,hj=>simp at hj;subst hj;simp[Addr.add]
 |1,hj=>simp at hj;subst hj;simp[Addr.add]
 |2,hj=>simp at hj;subst hj;simp[Addr.add]
theorem Q5{P:Program}{ops:Array Oper}{o:Oper}{a:Act}{w:World}{K:Act->World->Prop}{Q:Exit->Act->World->Prop}{E:Prop}
  (hg:o.guard=none) (s x:Operand) (t:TypeId) (uJ:o.op=Op.call {callee:=Callee.builtin Builtin.append,args:=#[s,x],argTypes:=#[t,t]})
  (base:Nat) (e:TypeId) (i:TypeInfo) (z:Value) (size bytes:Nat) (h1:P.underlying t=some (.slice e)) (h2:P.info? e=some i) (h3:i.zero=some z) (h4:i.size=size) (h5:i.bytes=bytes) (h6:z.cells.size=size) (h7:0<size)
  (v:Value) (n:Nat) (xs:List Value) (hs:a.eval s=v) (uK:w.ownsRow base e size v n xs)
  (ad:Addr) (m c:Nat) (news:List Value) (hx:a.eval x=.slice (some ad) m c) (hn:news.length=m*size) (hc:∀j u,news[j]?=some u->w.cell? (ad.add j)=some u) (h1c:∀u∈news,u.oneCell'=true)
  (b1:n+m<=maxLen) (b2:(n+m)*bytes<=140737488355328) (akS:base<=w.heap.size)
  (hK:∀v' w',w'.ownsRow base e size v' (n+m) (xs++news)->w.grownBy w' v.ownBlock->(v'.ownBlock=v.ownBlock\/v'.ownBlock=some w.heap.size)->K (a.put o.dst v') w'):
  if Region.wanted o (yielded ops a.tmps)=true then Oper.wp P o a w K Q else E:=by
 have hw:Region.wanted o (yielded ops a.tmps)=true:=auF;rw[aj hw];obtain⟨v',w',hr,r1,r2,_,r4⟩:=run_append_own_at (P:=P) w base t o.type e i z size bytes h1 h2 h3 h4 h5 h6 h7 v n xs uK ad m c news hn hc h1c b1 b2 akS;unfold Oper.wp;exact axP
theorem HA.push{B h n:Nat}{f:Nat->qY}{v v':Value}{e:qY}{w wa w1:World}(H:HA B h n f v w)(hB:B<=w.heap.size)(ha:Below w.heap.size w wa)(hg:wa.grownBy w1 v.ownBlock)(ho:w1.ownsRow B 97 3 v' (n+1) (Ji n f++abl e)):
  HA B h (n+1) (λx=>if x=n then e else f x) v' (w1.setCell ⟨h,0,none⟩ v')/\w1.cell? ⟨h,0,none⟩=some v/\w1.frozen? ⟨h,0,none⟩=false/\Below h w (w1.setCell ⟨h,0,none⟩ v')/\B<=(w1.setCell ⟨h,0,none⟩ v').heap.size:=by
 have uy:=H.low;have hsa:=ha.size;have k:w1.heap[h]?=w.heap[h]?:=(hg.block h ae (λe'=>awt)).trans (ha.block h ae);have r:=H.var.of_block k;have Iu:Below B w w1:=((ha.mono hB).grown hg ae (λx hx=>(H.own.lt x hx).1));have x9:=Iu.size;refine⟨⟨(r.set 0 v').congr λi hi=>pG,?_,uy⟩,r.cell (i:=0) ae,r.frozen 0,?_,az⟩
 .rw[Gn,aj rfl,UT (g:=f) λi hi=>fV];exact dF ho (a:=⟨h,0,none⟩) uy v'
 .exact ax_
theorem abn{f:Nat->qY}{n:Nat}{e:qY}(h:Hp f n):abj (λx=>if x=n then e else f x) (n+1) n:=
 ⟨λc h0 hc hne=>by dsimp only;rw[ah (show¬(c-1)/2=n by omega),ah hne];exact h c h0 ae,λc h0 hc hcn _=>ae⟩
theorem akK(B h n:Nat)(f:Nat->qY)(v:Value)(e:qY)(w:World)(H:HA B h n f v w)(hB:B<=w.heap.size)(hn:n<=1048576)(hp:Hp f n):
  Calls prog 23 #[.pointer (some ⟨h,0,none⟩),ry e.k,.agg #[ry e.k,e.d]] w λr w'=>r=.returned (.tuple #[])/\∃f' v',HA B h (n+1) f' v' w'/\qN (n+1) (λx=>if x=n then e else f x) f'/\Hp f' (n+1)/\Below h w w'/\B<=w'.heap.size:=by
 obtain⟨i0,Af,x_,w_,wH⟩:=bG Tryz.amf
 have n0:(w.alloc (.cells #[ry e.k,e.d] 44)).rowIs w.heap.size 44 2 (λj=>if j=0 then ry e.k else e.d):=
  World.rowIs_alloc w #[ry e.k,e.d] 44 _ (λi hi=>by have:i=0\/i=1:=iK;rcases this with rfl|rfl<;>rfl)
 have uy:=H.low;have b0:Below h w (w.alloc (.cells #[ry e.k,e.d] 44)):=(aA _ _).alloc ae _;have H0:HA B h n f v (w.alloc (.cells #[ry e.k,e.d] 44)):=⟨H.var.alloc _,H.own.alloc _,H.low⟩;have NF:B<=(w.alloc (.cells #[ry e.k,e.d] 44)).heap.size:=az
 obtain⟨bo,cap,rfl⟩:∃bo cap,v=.slice bo n cap:=by exact awO
 clear H hB;unfold ry qY.d at*;go_enter func23,ntmps23
 go_wp2_with fail
 have a0:=H0.var.cell (i:=0) ae;have c0:=n0.cell (i:=0) ae;have c1:=n0.cell (i:=1) ae;have a0':=(H0.var.alloc (.cells #[.string ⟨e.k.toArray⟩,.string ⟨e.k.toArray⟩,.slice e.a e.l e.c] 97)).cell (i:=0) ae;have Yv:=(n0.alloc (.cells #[.string ⟨e.k.toArray⟩,.string ⟨e.k.toArray⟩,.slice e.a e.l e.c] 97)).cell (i:=0) ae;have c1':=(n0.alloc (.cells #[.string ⟨e.k.toArray⟩,.string ⟨e.k.toArray⟩,.slice e.a e.l e.c] 97)).cell (i:=1) ae;simp only[aF,jJ,aU]at c0 c1 Yv c1';generalize L9:w.alloc (.cells #[.string ⟨e.k.toArray⟩,.slice e.a e.l e.c] 44)=w0 at*;clear n0 L9
 go_region_law ((refine Q5 rfl _ _ 66 rfl B 97 i0 (.agg #[.string ⟨#[]⟩,.string ⟨#[]⟩,.slice none 0 0]) 3 56 underlying66 Af x_ w_ wH rfl au _ _ _ rfl ((H0.own.alloc _).drew) ⟨w0.heap.size,0,none⟩ 1 1 (abl e) rfl rfl (UX _ _ _ _ _) (ajw e) bH ae az ?_;intro v' w1 Ad tq hwh;obtain⟨gq,cq,rfl,_,_⟩:=Ad.form ae;obtain⟨H2,d1,d2,sZ,Ae⟩:=H0.push NF (((aA w0.heap.size w0).alloc (ak _) _).drew) tq Ad))
 all_goals
  have k3:=ady B h (n+1) n _ _ _ H2 ae (abn hp);have g0:=H2.var.cell (i:=0) ae;have Iu:=b0.trans sZ;clear H0 H2 a0 a0' c0 Yv c1 c1' d1 d2 b0 sZ tq hwh;generalize w1.setCell ⟨h,0,none⟩ (.slice (some ⟨gq,0,none⟩) (n+1) cq)=w2 at*
  go_wp2_with(first|(go_at_call 41;(with_reducible refine k3.mono ?_);rintro r w3 ⟨rfl,f',H3,XH,hp3,vK⟩))
  go_end0;exact axn
