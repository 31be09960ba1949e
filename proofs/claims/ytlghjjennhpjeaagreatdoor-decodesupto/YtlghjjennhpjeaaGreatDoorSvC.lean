import Derived.Test.YtlghjjennhpjeaaGreatDoorSvD
import Derived.Deep.WholeRow
import Derived.Deep.RegionHeld3
import Derived.Deep.AppendLies
set_option maxHeartbeats 4000000
set_option maxRecDepth 100000
namespace Go.Proofs.Y
abbrev F:=Fin 256
namespace F
def add(a b:F):F:=⟨a.val^^^b.val,CV a.isLt b.isLt⟩
def mu(a b:F):F:=⟨mul a.val b.val,mul_lt a.isLt⟩
def iv(a:F):F:=⟨inv a.val,YO a.isLt⟩
theorem add_comm(a b:F):add a b=add b a:=fC (jA _ _)
theorem add_assoc(a b c:F):add (add a b) c=add a (add b c):=fC (dJ _ _ _)
theorem J7(a b c:F):add a (add b c)=add b (add a c):=by rw[<-add_assoc,add_comm a b,add_assoc]
theorem yG(a:F):add a a=0:=fC (kJ _)
theorem add_zero(a:F):add a 0=a:=fC (lU _)
theorem zero_add(a:F):add 0 a=a:=by rw[add_comm,add_zero]
theorem MZ(a b:F):add a (add a b)=b:=by rw[<-add_assoc,yG,zero_add]
theorem wI(a b:F):mu a b=mu b a:=fC (mul_comm a.isLt b.isLt)
theorem EJ(a b c:F):mu (mu a b) c=mu a (mu b c):=fC (mul_assoc a.isLt b.isLt c.isLt).symm
theorem Iy(a b c:F):mu a (mu b c)=mu b (mu a c):=by rw[<-EJ,wI a b,EJ]
theorem NS(a b c:F):mu a (add b c)=add (mu a b) (mu a c):=fC (wL _ _ a.isLt)
theorem aku(a b c:F):mu (add a b) c=add (mu a c) (mu b c):=fC (xq _ a.isLt b.isLt)
theorem zK(a:F):mu a 0=0:=fC (mul_zero a.val)
theorem yY(a:F):mu 0 a=0:=by rw[wI,zK]
theorem UR(a:F):mu a 1=a:=fC (mul_one a.isLt)
theorem zV(a:F):mu 1 a=a:=by rw[wI,UR]
theorem IU{a:F}(h:a≠0):mu a (iv a)=1:=fC (Tu a.isLt λe=>h (fC e))
theorem akv{a:F}(h:a≠0):mu (iv a) a=1:=by rw[wI,IU h]
theorem adf:(1:F)≠0:=aB
theorem ahr{a b:F}(h:add a b=0):a=b:=by have:=bI (add a) h;rw[MZ,add_zero]at this;exact this.symm
theorem QD{a b:F}(h:a≠b):add a b≠0:=λe=>h (ahr e)
theorem Gz{a b c:F}(ha:a≠0)(h:mu a b=mu a c):b=c:=by have:=bI (mu (iv a)) h;rwa[<-EJ,<-EJ,akv ha,zV,zV]at this
theorem anp{a:F}(ha:a≠0):iv a≠0:=λe=>adf (by rw[<-IU ha,e,zK])
theorem key{u a b z:F}(h1:add u b≠0)(h2:add z b≠0)(h3:add u z≠0)(h4:add a z≠0)(x:F):
  add (mu (iv (add u z)) (mu x (mu (add a z) (iv (add z b))))) (mu (mu (add a b) (iv (add u b))) (mu (iv (add a z)) (mu x (mu (add a z) (iv (add z b))))))=mu (mu (add u a) (iv (add u b))) (mu (iv (add u z)) x):=by
 have e4:mu (iv (add a z)) (mu x (mu (add a z) (iv (add z b))))=mu x (iv (add z b)):=by rw[Iy x,<-EJ,akv h4,zV]
 rw[e4];apply Gz h1;apply Gz h2;apply Gz h3
 have t1:mu (add u z) (mu (add z b) (mu (add u b) (mu (iv (add u z)) (mu x (mu (add a z) (iv (add z b)))))))=mu x (mu (add a z) (add u b)):=by
  calc _=mu (mu (add u z) (iv (add u z))) (mu (mu (add z b) (iv (add z b))) (mu x (mu (add a z) (add u b)))):=by simp only[wI,Iy]
   _=_:=by rw[IU h3,IU h2,zV,zV]
 have t2:mu (add u z) (mu (add z b) (mu (add u b) (mu (mu (add a b) (iv (add u b))) (mu x (iv (add z b))))))=mu x (mu (add a b) (add u z)):=by
  calc _=mu (mu (add u b) (iv (add u b))) (mu (mu (add z b) (iv (add z b))) (mu x (mu (add a b) (add u z)))):=by simp only[wI,Iy]
   _=_:=by rw[IU h1,IU h2,zV,zV]
 have t3:mu (add u z) (mu (add z b) (mu (add u b) (mu (mu (add u a) (iv (add u b))) (mu (iv (add u z)) x))))=mu x (mu (add u a) (add z b)):=by
  calc _=mu (mu (add u b) (iv (add u b))) (mu (mu (add u z) (iv (add u z))) (mu x (mu (add u a) (add z b)))):=by simp only[wI,Iy]
   _=_:=by rw[IU h1,IU h3,zV,zV]
 rw[NS (add u b),NS (add z b),NS (add u z),t1,t2,t3,<-NS];refine bI (mu x) ?_;simp only[NS,aku];simp only[wI,add_assoc,add_comm,J7,MZ,yG,zero_add]
def sum:aC->(Nat->F)->F
 |[],_=>0
 |i::l,f=>add (f i) (sum l f)
theorem Bv{l:aC}{f g:Nat->F}(h:∀i∈l,f i=g i):sum l f=sum l g:=by
 induction l with
 |nil=>rfl
 |cons i l ih=>rw[sum,sum,h i aA,ih λj hj=>h j jW]
theorem sum_add(l:aC)(f g:Nat->F):sum l (λi=>add (f i) (g i))=add (sum l f) (sum l g):=by
 induction l with
 |nil=>exact(add_zero 0).symm
 |cons i l ih=>simp only[sum,ih,add_assoc,J7]
theorem ZX(l:aC)(c:F)(f:Nat->F):sum l (λi=>mu c (f i))=mu c (sum l f):=by
 induction l with
 |nil=>exact(zK c).symm
 |cons i l ih=>rw[sum,sum,ih,NS]
theorem UT(l:aC){f:Nat->F}(h:∀i∈l,f i=0):sum l f=0:=by
 induction l with
 |nil=>rfl
 |cons i l ih=>rw[sum,h i aA,ih λj hj=>h j jW,add_zero]
theorem aej(l:aC)(p:Nat->Bool)(f:Nat->F)(h:∀i∈l,p i=false->f i=0):sum (l.filter p) f=sum l f:=by
 induction l with
 |nil=>rfl
 |cons i l ih=>
  have:=ih λj hj=>h j jW
  cases hp:p i with
  |true=>rw[List.filter_cons_of_pos (by simp[hp]),sum,sum,this]
  |false=>rw[List.filter_cons_of_neg (by simp[hp]),sum,this,h i aA hp,zero_add]
theorem Bz{l:aC}(hl:l.Nodup){f:Nat->F}{t:Nat}(ht:t∈l)(h:∀i∈l,i≠t->f i=0):sum l f=f t:=by
 induction l with
 |nil=>cases ht
 |cons i l ih=>
  rw[List.nodup_cons]at hl;rw[sum];rcases dK.1 ht with rfl|ht'
  .rw[UT l λj hj=>h j jW (λe=>hl.1 (e▸hj)),add_zero]
  .rw[h i aA (λe=>hl.1 (e▸ht')),zero_add];exact ih hl.2 ht' λj hj hne=>h j jW hne
theorem akw(a b:Nat->F):∀(V:aC),V.Nodup->(∀s∈V,∀j∈V,a s≠b j/\(s≠j->a s≠a j/\b s≠b j))->∀y:Nat->F,∃x:Nat->F,(∀j,j∉V->x j=0)/\∀s∈V,sum V (λj=>mu (iv (add (a s) (b j))) (x j))=y s
 |[],_,_,_=>⟨λ_=>0,λ_ _=>rfl,λ_ h=>gp⟩
 |t::V,hn,hd,y=>by
  rw[List.nodup_cons]at hn;have hd':∀s∈V,∀j∈V,a s≠b j/\(s≠j->a s≠a j/\b s≠b j):=λs hs j hj=>hd s (by simp[hs]) j jW
  have ne:∀s∈V,t≠s:=λs hs e=>hn.1 (e▸hs)
  let c:Nat->F:=λs=>mu (add (a t) (b t)) (iv (add (a s) (b t)))
  let d:Nat->F:=λs=>mu (add (a s) (b t)) (iv (add (a s) (a t)))
  obtain⟨x',zh,hx⟩:=akw a b V hn.2 hd' (λs=>mu (add (y s) (mu (c s) (y t))) (d s))
  let x1:Nat->F:=λj=>mu (x' j) (mu (add (a t) (b j)) (iv (add (b j) (b t))))
  let xt:F:=mu (add (a t) (b t)) (add (y t) (sum V λj=>mu (iv (add (a t) (b j))) (x1 j)))
  have htt:add (a t) (b t)≠0:=QD (hd t aA t aA).1;have hsum:∀s,sum V (λj=>mu (iv (add (a s) (b j))) (if j=t then xt else x1 j))=sum V (λj=>mu (iv (add (a s) (b j))) (x1 j)):=λs=>Bv λj hj=>by rw[au (λe=>ne j hj e.symm)]
  refine⟨λj=>if j=t then xt else x1 j,λj hj=>?_,λs hs=>?_⟩
  .simp only[dK,not_or]at hj;simp only[au hj.1];show mu (x' j) _=0;rw[zh j hj.2,yY]
  rw[sum,hsum];simp only[aY];by_cases uw:s=t
  .subst uw;show add (mu (iv (add (a s) (b s))) (mu (add (a s) (b s)) _)) _=_;rw[<-EJ,akv htt,zV,add_assoc,yG,add_zero]
  .have hsV:s∈V:=by simpa[uw]using hs
   have ane:add (a s) (b t)≠0:=QD (hd s hs t aA).1;have hsa:add (a s) (a t)≠0:=QD ((hd s hs t aA).2 uw).1
   have e1:mu (iv (add (a s) (b t))) xt=add (mu (c s) (y t)) (sum V λj=>mu (c s) (mu (iv (add (a t) (b j))) (x1 j))):=by rw[ZX,<-NS];show mu (iv (add (a s) (b t))) (mu (add (a t) (b t)) _)=mu (mu (add (a t) (b t)) (iv (add (a s) (b t)))) _;rw[<-EJ,wI (iv _) (add (a t) (b t))]
   have e2:add (sum V λj=>mu (c s) (mu (iv (add (a t) (b j))) (x1 j))) (sum V λj=>mu (iv (add (a s) (b j))) (x1 j))=add (y s) (mu (c s) (y t)):=by
    rw[<-sum_add]
    have:∀j∈V,add (mu (c s) (mu (iv (add (a t) (b j))) (x1 j))) (mu (iv (add (a s) (b j))) (x1 j))=mu (mu (add (a s) (a t)) (iv (add (a s) (b t)))) (mu (iv (add (a s) (b j))) (x' j)):=by intro j hj;rw[add_comm];exact key ane (QD ((hd j jW t aA).2 (λe=>ne j hj e.symm)).2) (QD (hd' s hsV j hj).1) (QD (hd t aA j jW).1) (x' j)
    rw[Bv this,ZX,hx s hsV];show mu (mu (add (a s) (a t)) (iv (add (a s) (b t)))) (mu _ (mu (add (a s) (b t)) (iv (add (a s) (a t)))))=_
    have:∀q p p' r r':F,mu p p'=1->mu r r'=1->mu (mu p r') (mu q (mu r p'))=q:=λq p p' r r' hp hr=>by
     calc _=mu (mu p p') (mu (mu r r') q):=by simp only[wI,Iy]
      _=q:=by rw[hp,hr,zV,zV]
    exact this _ _ _ _ _ (IU hsa) (IU ane)
   rw[e1,add_assoc,e2,J7,add_comm (mu _ _) (mu _ _),yG,add_zero]
end F
end Go.Proofs.Y
namespace Go.Proofs.Y
namespace F
def dot(k:Nat)(r x:Nat->F):F:=sum (List.range k) λj=>mu (r j) (x j)
structure Sq(k:Nat)(px:Nat->F)(M:Nat->Nat->F):Prop where
 unit:∀s,s<k->(px s).val<k->(px s).val=s/\∀j,j<k->M s j=if j=s then 1 else 0
 inv:∀s,s<k->k<=(px s).val->∀j,j<k->M s j=iv (add (px s) (Fin.ofNat 256 j))
 inj:∀s j,s<k->j<k->s≠j->px s≠px j
 small:k<=256
theorem yw{k:Nat}{r x:Nat->F}{s:Nat}(hs:s<k)(h:∀j,j<k->r j=if j=s then 1 else 0):dot k r x=x s:=by
 have:=Bz (l:=List.range k) jK (f:=λj=>mu (r j) (x j)) (t:=s) (by simpa using hs) (λi hi hne=>by simp only[jM]at hi;simp only[h i hi,au hne,yY])
 rw[dot,this];simp only[h s hs,aY,zV]
theorem apn{k:Nat}{px:Nat->F}{M:Nat->Nat->F}(h:Sq k px M){t:Nat}(ht:t<k):∃x:Nat->F,(∀j,t<j->x j=0)/\(∀s,s<t->dot k (M s) x=0)/\dot k (M t) x=1:=by
 let b:Nat->F:=λj=>Fin.ofNat 256 j
 have bv:∀j,j<k->(b j).val=j:=λj hj=>dB (bH hj h.small)
 have key:∀(V:aC),V.Nodup->(∀s∈V,s<k/\k<=(px s).val)->∀y:Nat->F,∃x:Nat->F,(∀j,j∉V->x j=0)/\∀s∈V,sum V (λj=>mu (iv (add (px s) (b j))) (x j))=y s:=λV hn hV y=>
  akw px b V hn (λs hs j hj=>⟨λe=>by have:=bI Fin.val e;rw[bv j (hV j hj).1]at this;have:=(hV s hs).2;have:=(hV j hj).1;omega,λhne=>⟨h.inj s j (hV s hs).1 (hV j hj).1 hne,λe=>hne (by have:=bI Fin.val e;rwa[bv s (hV s hs).1,bv j (hV j hj).1]at this)⟩⟩) y
 have full:∀(p:Nat->Bool)(x:Nat->F)(s:Nat),s<k->k<=(px s).val->(∀j,j∉(List.range k).filter p->x j=0)->dot k (M s) x=sum ((List.range k).filter p) (λj=>mu (iv (add (px s) (b j))) (x j)):=λp x s hs hp hx=>by
  rw[aej,dot]
  .exact Bv λj hj=>by rw[h.inv s hs hp j iC]
  .intro j hj hpj;rw[hx j (by simp[hpj]),zK]
 by_cases htu:(px t).val<k
 ·
  let p:Nat->Bool:=λs=>decide (s<t)&&decide (k<=(px s).val)
  obtain⟨x,zh,hx⟩:=key ((List.range k).filter p) (jK.filter _) (λs hs=>by simp[p]at hs;omega) (λs=>iv (add (px s) (b t)));have hxt:x t=0:=zh t (by simp[p])
  have split:∀s,dot k (M s) (λj=>if j=t then 1 else x j)=add (dot k (M s) x) (M s t):=λs=>by
   have e1:∀j∈List.range k,mu (M s j) (if j=t then 1 else x j)=add (mu (M s j) (x j)) (if j=t then M s t else 0):=λj _=>by
    by_cases hj:j=t
    .subst hj;simp only[aY,hxt,zK,zero_add,UR]
    .simp only[au hj,add_zero]
   rw[dot,Bv e1,sum_add]
   congr 1
   rw[Bz (l:=List.range k) jK (t:=t) nS (λi _ hne=>by simp only[au hne])];simp only[aY]
  refine⟨λj=>if j=t then 1 else x j,λj hj=>?_,λs hs=>?_,?_⟩
  .simp only[au (show j≠t by omega)];exact zh j lq
  .by_cases hsu:(px s).val<k
   .rw[yw ag (h.unit s ag hsu).2];simp only[au (show s≠t by omega)];exact zh s lq
   .have hsV:s∈(List.range k).filter p:=lq;rw[split,full p x s ag ag zh,hx s hsV,h.inv s ag ag t ht];exact yG _
  .rw[yw ht (h.unit t ht htu).2];simp only[aY]
 .let p:Nat->Bool:=λs=>decide (s<=t)&&decide (k<=(px s).val)
  obtain⟨x,zh,hx⟩:=key ((List.range k).filter p) (jK.filter _) (λs hs=>by simp[p]at hs;omega) (λs=>if s=t then 1 else 0);refine⟨x,λj hj=>zh j lq,λs hs=>?_,?_⟩
  .by_cases hsu:(px s).val<k
   .rw[yw ag (h.unit s ag hsu).2];exact zh s lq
   .rw[full p x s ag ag zh,hx s lq];simp only[au (show s≠t by omega)]
  .rw[full p x t ht ag zh,hx t lq];simp only[aY]
structure Gj(k:Nat)(M:Nat->Nat->F)(t:Nat)(A B:Nat->Nat->F):Prop where
 same:∀x y:Nat->F,(∀i,i<k->dot k (A i) x=dot k (B i) y)↔∀i,i<k->dot k (M i) x=y i
 left:∀i s,i<k->s<t->A i s=if s=i then 1 else 0
 right:∀i s,i<k->t<=s->s<k->B i s=if s=i then 1 else 0
theorem aa5(k:Nat)(M:Nat->Nat->F):Gj k M 0 M (λi j=>if j=i then 1 else 0):=
 ⟨λx y=>oz λi=>oz λhi=>by rw[yw (r:=λj=>if j=i then 1 else 0) hi λ_ _=>rfl],
  λ_ _ _ h=>absurd h ag,λ_ _ _ _ _=>rfl⟩
theorem akT{k:Nat}{px:Nat->F}{M A B:Nat->Nat->F}{t:Nat}(h:Sq k px M)(hg:Gj k M t A B)(ht:t<k):A t t≠0:=by
 obtain⟨x,zh,CQ,hxt⟩:=apn h ht;have:=(hg.same x (λi=>dot k (M i) x)).2 (λ_ _=>rfl) t ht
 have e1:dot k (A t) x=mu (A t t) (x t):=Bz jK nS λi hi hne=>by
  rcases bK i t with qB|NV
  .rw[hg.left t i ht qB,au hne,yY]
  .rw[zh i ag,zK]
 have e2:dot k (B t) (λi=>dot k (M i) x)=1:=by
  have e3:dot k (B t) (λi=>dot k (M i) x)=mu (B t t) (dot k (M t) x):=Bz jK nS λi hi hne=>by
   rcases bK i t with qB|NV
   .show mu (B t i) (dot k (M i) x)=0;rw[CQ i qB,zK]
   .rw[hg.right t i ht NV lg,au hne,yY]
  rw[e3,hxt,hg.right t t ht (ay _) ht];simp only[aY,UR]
 rw[e1,e2]at this;intro e;rw[e,yY]at this;exact adf this.symm
def scaled(c:F)(r:Nat->F):Nat->F:=λj=>mu (r j) c
def added(c:F)(r q:Nat->F):Nat->F:=λj=>add (r j) (mu (q j) c)
theorem Ep(k:Nat)(c:F)(r x:Nat->F):dot k (scaled c r) x=mu c (dot k r x):=by rw[dot,dot,<-ZX];exact Bv λj _=>by simp only[scaled,wI,Iy]
theorem Qi(k:Nat)(c:F)(r q x:Nat->F):dot k (added c r q) x=add (dot k r x) (mu c (dot k q x)):=by
 rw[dot,dot,dot,<-ZX,<-sum_add]
 exact Bv λj _=>by rw[added,aku];simp only[wI,Iy]
def M_(A:Nat->Nat->F)(t i:Nat):Nat->F:=if i=t then scaled (iv (A t t)) (A t)else added (A i t) (A i) (scaled (iv (A t t)) (A t))
def Na(A B:Nat->Nat->F)(t i:Nat):Nat->F:=if i=t then scaled (iv (A t t)) (B t)else added (A i t) (B i) (scaled (iv (A t t)) (B t))
theorem ae1{k:Nat}{px:Nat->F}{M A B:Nat->Nat->F}{t:Nat}(h:Sq k px M)(hg:Gj k M t A B)(ht:t<k):Gj k M (t+1) (M_ A t) (Na A B t):=by
 have hp:=akT h hg ht;refine⟨λx y=>?_,λi s hi hs=>?_,λi s hi hs xk=>?_⟩
 .rw[<-hg.same x y];constructor
  .intro e i hi;have et:=e t ht;simp only[M_,Na,aY,Ep]at et;have et':=Gz (anp hp) et;by_cases FM:i=t
   .subst FM;exact et'
   .have ei:=e i hi;simp only[M_,Na,au FM,Qi,Ep,et']at ei;have:=bI (add (mu (A i t) (mu (iv (A t t)) (dot k (B t) y)))) ei;rwa[J7,yG,add_zero,J7,yG,add_zero]at this
  .intro e i hi;by_cases FM:i=t
   .subst FM;simp only[M_,Na,aY,Ep,e i hi]
   .simp only[M_,Na,au FM,Qi,Ep,e i hi,e t ht]
 .have tt:∀s,s<t+1->scaled (iv (A t t)) (A t) s=if s=t then 1 else 0:=λs hs=>by
   by_cases uw:s=t
   .subst uw;simp only[scaled,aY,IU hp]
   .simp only[scaled,hg.left t s ht ag,au uw,yY]
  by_cases FM:i=t
  .subst FM;simp only[M_,aY];exact tt s hs
  .simp only[M_,au FM,added,tt s hs];by_cases uw:s=t
   .subst uw;simp only[aY,zV,yG];rw[au (λe=>FM e.symm)]
   .simp only[au uw,yY,add_zero];exact hg.left i s hi ag
 .have tt:∀s,t+1<=s->s<k->scaled (iv (A t t)) (B t) s=0:=λs hs xk=>by
   simp only[scaled,hg.right t s ht ag xk,au (show s≠t by omega),yY]
  by_cases FM:i=t
  .subst FM;simp only[Na,aY];rw[tt s hs xk,au ag]
  .simp only[Na,au FM,added,tt s hs xk,yY,add_zero];exact hg.right i s hi ag xk
theorem ait{k:Nat}{M A B:Nat->Nat->F}(hg:Gj k M k A B)(y:Nat->F):∀i,i<k->dot k (M i) (λj=>dot k (B j) y)=y i:=by
 refine(hg.same (λj=>dot k (B j) y) y).1 λi hi=>?_
 rw[yw hi λj hj=>avw]
end F
end Go.Proofs.Y
namespace Go.Proofs.Y
open Go.RowKit Go.Deep
structure Cb(S:Nat->Prop)(w w':ah):Prop where
 os:w'.os=w.os
 tape:w'.tape=w.tape
 output:w'.output=w.output
 size:w.heap.size<=w'.heap.size
 block:∀k,k<w.heap.size->¬S k->w'.heap[k]?=w.heap[k]?
theorem Cb.refl(S:Nat->Prop)(w:ah):Cb S w w:=⟨rfl,rfl,rfl,ay _,λ_ _ _=>rfl⟩
theorem Cb.below{S:Nat->Prop}{w w':ah}(h:Below w.heap.size w w'):Cb S w w':=⟨h.os,h.tape,h.output,h.size,λk hk _=>h.block k hk⟩
theorem Cb.trans{S S':Nat->Prop}{w w' w'':ah}(h:Cb S w w')(h':Cb S' w' w'')(hs:∀k,k<w.heap.size->S' k->S k):Cb S w w'':=
 ⟨h'.os.trans h.os,h'.tape.trans h.tape,h'.output.trans h.output,bF h.size h'.size,λk hk hn=>(h'.block k (bH hk h.size) λx=>hn (hs k hk x)).trans (h.block k hk hn)⟩
theorem Cb.mono{S S':Nat->Prop}{w w':ah}(h:Cb S w w')(hs:∀k,S k->S' k):Cb S' w w':=⟨h.os,h.tape,h.output,h.size,λk hk hn=>h.block k hk λx=>hn (hs k x)⟩
theorem Cb.set{S:Nat->Prop}{w w':ah}(h:Cb S w w'){a:Addr}(ha:S a.block\/w.heap.size<=a.block)(v:ai):Cb S w (w'.setCell a v):=
 ⟨h.os,h.tape,h.output,au6,λk hk hn=>(lL w' a k v (by rcases ha with x|x;exact λe=>hn (e▸x);omega)).trans (h.block k hk hn)⟩
theorem Cb.alloc{S:Nat->Prop}{w w':ah}(h:Cb S w w')(o:Obj):Cb S w (w'.alloc o):=h.trans (S':=λ_=>False) (.below ((aO _ _).alloc (ay _) _)) (λ_ _ x=>x.elim)
theorem Cb.drew{S:Nat->Prop}{w w':ah}(h:Cb S w w'):Cb S w w'.drew:=⟨h.os,h.tape,h.output,h.size,h.block⟩
theorem Cb.row{S:Nat->Prop}{w w':ah}(h:Cb S w w'){b n:Nat}{t:aG}{f:Nat->ai}(hb:b<w.heap.size)(hn:¬S b)(hr:w.rowIs b t n f):w'.rowIs b t n f:=hr.of_block (h.block b hb hn)
def fv(a:Nat->F)(j:Nat):ai:=.int .u8 ((a j).val:Int)
theorem afq{T:aH}(hT:T.size=256)(h1:∀v∈T,v.oneCell'=true)(w:ah):(storeCells ⟨w.heap.size,0,none⟩ T.toList).run Tryz.prog (w.alloc (.cells Tryz.zeroCells197 197))=.ok () (w.alloc (.cells T 197)):=by rw[PD (gU _ _) (by rw[DN 0];exact uP 0 0) hT h1,World.setRow_alloc_new]
theorem Yr(b k cap:Nat)(a:Nat->F)(f:F)(w:ah)(hk:k<=128)(hr:w.rowIs b 5 k (fv a))(hb:b<w.heap.size):
  Calls Tryz.prog 95 #[.slice (some ⟨b,0,none⟩) k cap,.int .u8 (f.val:Int)] w λe w'=>e=.returned (.tuple #[])/\w'.rowIs b 5 k (fv (F.scaled f a))/\Cb (· =b) w w':=by
 have hpr:=PG f.val f.isLt;have r_:=afq (uP f.val 256) (J8 f.val 256);have Mc:∀x,x<256->(zQ f.val 256)[x]?=some (.int .u8 ((mul x f.val:Nat):Int)):=λx hx=>by rw[BZ _ _ _ hx,ax hx]
 have hsz:=uP f.val 256;generalize zQ f.val 256=T at hpr r_ Mc hsz;have hfv:∀j,(F.scaled f a j).val=mul (a j).val f.val:=λ_=>rfl
 generalize NY:f.val=fn at hpr Mc hfv⊢;clear NY;go_enter Tryz.func95,Tryz.ntmps95
 go_wp2_with(first|(go_at_call 124;(with_reducible refine(hpr _).mono ?_);rintro e w1 ⟨rfl,tV⟩;have ak7:=r_ w1))
 have Og:Cb (· =b) w (w1.alloc (.cells T 197)):=(Cb.below tV).alloc _;have htab:(w1.alloc (.cells T 197)).heap[w1.heap.size]?=some (.cells T 197):=gU _ _;have hbn:b<w1.heap.size:=bH hb tV.size;have EO:(w1.alloc (.cells T 197)).rowIs b 5 k (fv a):=(hr.of_block (tV.block b hb)).alloc _;have hwn:=tV.size;generalize w1.heap.size=N at*;generalize w1.alloc (.cells T 197)=w2 at Og htab EO⊢;clear r_ ak7 tV hpr
 go_loopw [11] (λvj wr=>∃c:Nat,c<=k/\vj=.int .i64 (c:Int)/\wr.rowIs b 5 k (λj=>if j<c then fv (F.scaled f a) j else fv a j)/\Cb (· =b) w wr/\wr.heap[N]?=some (.cells T 197)) (λj _=>k-(intOf j).toNat)
 case atStart=>exact⟨0,ag,rfl,EO.congr (λj _=>iT),Og,htab⟩
 case round=>
  clear EO Og htab;obtain⟨c,hc,rfl,hR,hO,hT⟩:=hrel;by_cases qB:c<k
  .have xZ:(c:Int)<(k:Int):=ag
   have c1:wr.cell? ⟨b,c,none⟩=some (.int .u8 ((a c).val:Int)):=by have:=hR.cell qB;exact axj
   have fz:=hR.frozen c;have hax:=(a c).isLt;have c2:wr.cell? ⟨N,(a c).val,none⟩=some (.int .u8 ((mul (a c).val fn:Nat):Int)):=by rw[cell_of _ hT,Mc _ hax]
   have LX:=hR.set c (.int .u8 ((mul (a c).val fn:Nat):Int))
   have hR3:(wr.setCell ⟨b,c,none⟩ (.int .u8 ((mul (a c).val fn:Nat):Int))).rowIs b 5 k (λj=>if j<c+1 then fv (F.scaled f a) j else fv a j):=LX.congr λj _=>by
    by_cases e:j=c
    .subst e;rw[ax rfl,ax ag,fv,hfv]
    .rw[au e];by_cases h:j<c
     .rw[ax h,ax ag]
     .rw[au h,au ag]
   have hO2:=hO.set (a:=⟨b,c,none⟩) (.inl rfl) (.int .u8 ((mul (a c).val fn:Nat):Int));have VY:=(lL wr ⟨b,c,none⟩ N (.int .u8 ((mul (a c).val fn:Nat):Int)) (by show N≠b;omega)).trans hT;clear LX Mc hfv;generalize mul (a c).val fn=q at*;generalize(a c).val=x at*;go_wp2
   go_roundw
   case rel=>exact⟨c+1,ag,aV,hR3,hO2,VY⟩
   case measure=>simp[intOf];omega
  .obtain rfl:c=k:=ag;have E5:¬((c:Int)<(c:Int)):=ag;go_wp2;go_end0;exact⟨rfl,hR.congr λj hj=>avo,hO⟩
theorem aek(a q:Nat->F):F.added 0 a q=a:=by
 funext j
 rw[F.added,F.zK,F.add_zero]
theorem PH(b b2 k cap atd:Nat)(a a2:Nat->F)(f:F)(w:ah)(hk:k<=128)(hr:w.rowIs b 5 k (fv a))(hr2:w.rowIs b2 5 k (fv a2))(hb:b<w.heap.size)(rq:b2<w.heap.size)(hne:b2≠b):
  Calls Tryz.prog 110 #[.slice (some ⟨b,0,none⟩) k cap,.int .u8 (f.val:Int),.slice (some ⟨b2,0,none⟩) k atd] w λe w'=>e=.returned (.tuple #[])/\w'.rowIs b 5 k (fv (F.added f a a2))/\Cb (· =b) w w':=by
 by_cases hz:f=0
 .subst hz;rw[aek,show((0:F).val:Int)=0 from rfl];go_enter Tryz.func110,Tryz.ntmps110;go_wp2;refine dS (iF rfl _ _ _) rfl ?_;exact⟨rfl,hr,Cb.refl _ _⟩
 have hpr:=PG f.val f.isLt;have r_:=afq (uP f.val 256) (J8 f.val 256);have Mc:∀x,x<256->(zQ f.val 256)[x]?=some (.int .u8 ((mul x f.val:Nat):Int)):=λx hx=>by rw[BZ _ _ _ hx,ax hx]
 have hsz:=uP f.val 256;generalize zQ f.val 256=T at hpr r_ Mc hsz;have hfv:∀j,(F.added f a a2 j).val=(a j).val^^^mul (a2 j).val f.val:=λ_=>rfl
 have hz':((f.val:Int)==0)=false:=by simp only[lM,ne_eq];intro e;exact hz (fC (by show f.val=0;omega))
 have hml:∀j,mul (a2 j).val f.val<256:=λj=>mul_lt (a2 j).isLt
 generalize NY:f.val=fn at hpr Mc hfv hz' hml⊢;clear NY;go_enter Tryz.func110,Tryz.ntmps110
 go_wp2_with(first|(go_at_call 124;(with_reducible refine(hpr _).mono ?_);rintro e w1 ⟨rfl,tV⟩;have ak7:=r_ w1))
 have Og:Cb (· =b) w (w1.alloc (.cells T 197)):=(Cb.below tV).alloc _;have htab:(w1.alloc (.cells T 197)).heap[w1.heap.size]?=some (.cells T 197):=gU _ _;have hbn:b<w1.heap.size:=bH hb tV.size;have atU:b2<w1.heap.size:=bH rq tV.size;have EO:(w1.alloc (.cells T 197)).rowIs b 5 k (fv a):=(hr.of_block (tV.block b hb)).alloc _;have hwn:=tV.size;generalize w1.heap.size=N at*;generalize w1.alloc (.cells T 197)=w2 at Og htab EO⊢;clear r_ ak7 tV hpr
 go_loopw [15] (λvj wr=>∃c:Nat,c<=k/\vj=.int .i64 (c:Int)/\wr.rowIs b 5 k (λj=>if j<c then fv (F.added f a a2) j else fv a j)/\Cb (· =b) w wr/\wr.heap[N]?=some (.cells T 197)) (λj _=>k-(intOf j).toNat)
 case atStart=>exact⟨0,ag,rfl,EO.congr (λj _=>iT),Og,htab⟩
 case round=>
  clear EO Og htab;obtain⟨c,hc,rfl,hR,hO,hT⟩:=hrel;by_cases qB:c<k
  .have xZ:(c:Int)<(k:Int):=ag
   have c1:wr.cell? ⟨b,c,none⟩=some (.int .u8 ((a c).val:Int)):=by have:=hR.cell qB;exact axj
   have fz:=hR.frozen c;have hax:=(a c).isLt;have asx:=(a2 c).isLt;have c3:wr.cell? ⟨b2,c,none⟩=some (.int .u8 ((a2 c).val:Int)):=(hO.row rq hne hr2).cell qB;have c2:wr.cell? ⟨N,(a2 c).val,none⟩=some (.int .u8 ((mul (a2 c).val fn:Nat):Int)):=by rw[cell_of _ hT,Mc _ asx]
   have asy:=hml c;have hx:=u8_xor_nat _ _ hax asy;have LX:=hR.set c (.int .u8 (((a c).val^^^mul (a2 c).val fn:Nat):Int))
   have hR3:(wr.setCell ⟨b,c,none⟩ (.int .u8 (((a c).val^^^mul (a2 c).val fn:Nat):Int))).rowIs b 5 k (λj=>if j<c+1 then fv (F.added f a a2) j else fv a j):=LX.congr λj _=>by
    by_cases e:j=c
    .subst e;rw[ax rfl,ax ag,fv,hfv]
    .rw[au e];by_cases h:j<c
     .rw[ax h,ax ag]
     .rw[au h,au ag]
   have hO2:=hO.set (a:=⟨b,c,none⟩) (.inl rfl) (.int .u8 (((a c).val^^^mul (a2 c).val fn:Nat):Int));have VY:=(lL wr ⟨b,c,none⟩ N (.int .u8 (((a c).val^^^mul (a2 c).val fn:Nat):Int)) (by show N≠b;omega)).trans hT;clear LX Mc hfv hml;generalize(a c).val^^^mul (a2 c).val fn=r at*;generalize mul (a2 c).val fn=q at*;generalize(a c).val=x at*;generalize(a2 c).val=x2 at*;go_wp2;go_region;have hR4:=hR3.drew;have hO4:=hO2.drew;have hT4:(wr.setCell ⟨b,c,none⟩ (.int .u8 (r:Int))).drew.heap[N]?=some (.cells T 197):=VY;generalize(wr.setCell ⟨b,c,none⟩ (.int .u8 (r:Int))).drew=wz at hR4 hO4 hT4⊢;clear hR3 hO2 VY;go_wp2
   go_roundw
   case rel=>exact⟨c+1,ag,aV,hR4,hO4,hT4⟩
   case measure=>simp[intOf];omega
  .obtain rfl:c=k:=ag;have E5:¬((c:Int)<(c:Int)):=ag;go_wp2;go_end0;exact⟨rfl,hR.congr λj hj=>avo,hO⟩
structure Gi(w:ah)(h k:Nat)(bl:Nat->Nat)(A:Nat->Nat->F):Prop where
 head:w.rowIs h 24 k (λi=>.slice (some ⟨bl i,0,none⟩) k k)
 rows:∀i,i<k->w.rowIs (bl i) 5 k (fv (A i))
 inj:∀i j,i<k->j<k->i≠j->bl i≠bl j
 sep:∀i,i<k->bl i≠h
theorem Gi.congr{w:ah}{h k:Nat}{bl:Nat->Nat}{A A':Nat->Nat->F}(m:Gi w h k bl A)(e:∀i j,i<k->j<k->A i j=A' i j):Gi w h k bl A':=
 ⟨m.head,λi hi=>(m.rows i hi).congr λj hj=>by simp only[fv,e i j hi hj],m.inj,m.sep⟩
theorem Gi.heap{w w':ah}{h k:Nat}{bl:Nat->Nat}{A:Nat->Nat->F}(m:Gi w h k bl A)(e:w'.heap=w.heap):Gi w' h k bl A:=
 ⟨m.head.of_block iV,λi hi=>(m.rows i hi).of_block iV,m.inj,m.sep⟩
theorem Gi.turn{w w':ah}{h k c:Nat}{bl:Nat->Nat}{A:Nat->Nat->F}{r:Nat->F}(m:Gi w h k bl A)(hc:c<k)(ho:Cb (· =bl c) w w')(hr:w'.rowIs (bl c) 5 k (fv r)):Gi w' h k bl (λi=>if i=c then r else A i):=by
 refine⟨ho.row m.head.lt (λe=>m.sep c hc e.symm) m.head,λi hi=>?_,m.inj,m.sep⟩;by_cases e:i=c
 .subst e;simp only[aY];exact hr
 .simp only[au e];exact ho.row (m.rows i hi).lt (λx=>m.inj i c hi hc e x) (m.rows i hi)
theorem Gi.oth{w w':ah}{h k:Nat}{bl:Nat->Nat}{A:Nat->Nat->F}{S:Nat->Prop}(m:Gi w h k bl A)(ho:Cb S w w')(hh:¬S h)(hb:∀i,i<k->¬S (bl i)):Gi w' h k bl A:=
 ⟨ho.row m.head.lt hh m.head,λi hi=>ho.row (m.rows i hi).lt (hb i hi) (m.rows i hi),m.inj,m.sep⟩
structure Apart(k h1 h2:Nat)(b1 b2:Nat->Nat):Prop where
 rr:∀i j,i<k->j<k->b1 i≠b2 j
 hr:∀i,i<k->h1≠b2 i/\h2≠b1 i
 hh:h1≠h2
def PR(A X:Nat->Nat->F)(t c i:Nat):Nat->F:=if i<c/\i≠t then F.added (A i t) (X i) (X t)else X i
theorem acf(A X:Nat->Nat->F)(t:Nat):PR A X t 0=X:=by
 funext i
 rw[PR,au ag]
theorem anE(A X:Nat->Nat->F)(t c:Nat):PR A X t c t=X t:=by rw[PR,au ag]
theorem akx(A X:Nat->Nat->F)(t c:Nat):PR A X t c c=X c:=by rw[PR,au ag]
theorem aky(A X:Nat->Nat->F)(t:Nat):PR A X t (t+1)=PR A X t t:=by
 funext i
 unfold PR;by_cases h:i<t
 .rw[ax ag,ax ag]
 .rw[au ag,au ag]
theorem acg(A X:Nat->Nat->F){t c:Nat}(h:c≠t):(λi=>if i=c then F.added (A c t) (X c) (X t)else PR A X t c i)=PR A X t (c+1):=by
 funext i
 unfold PR;by_cases e:i=c
 .subst e;rw[ax rfl,ax ag]
 .rw[au e];by_cases h1:i<c/\i≠t
  .rw[ax h1,ax ag]
  .rw[au h1,au ag]
def J9(k:Nat)(b1 b2:Nat->Nat)(x:Nat):Prop:=∃i,i<k/\(x=b1 i\/x=b2 i)
theorem VI(k h1 h2 t:Nat)(b1 b2:Nat->Nat)(A B:Nat->Nat->F)(w:ah)(hk:k<=128)(ht:t<k)(hA:Gi w h1 k b1 A)(hB:Gi w h2 k b2 B)(hap:Apart k h1 h2 b1 b2):
  Calls Tryz.prog 96 #[.slice (some ⟨h1,0,none⟩) k k,.slice (some ⟨h2,0,none⟩) k k,.int .i64 (t:Int)] w λe w'=>e=.returned (.tuple #[])/\Gi w' h1 k b1 (PR A A t k)/\Gi w' h2 k b2 (PR A B t k)/\Cb (J9 k b1 b2) w w':=by
 go_enter Tryz.func96,Tryz.ntmps96;go_wp2
 go_loopw [10] (λvi wr=>∃c:Nat,c<=k/\vi=.int .i64 (c:Int)/\Gi wr h1 k b1 (PR A A t c)/\Gi wr h2 k b2 (PR A B t c)/\Cb (J9 k b1 b2) w wr) (λi _=>k-(intOf i).toNat)
 case atStart=>exact⟨0,ag,rfl,by rw[acf];exact hA,by rw[acf];exact hB,Cb.refl _ _⟩
 case round=>
  clear hA hB;obtain⟨c,hc,rfl,hA,hB,hO⟩:=hrel;by_cases qB:c<k
  .have xZ:(c:Int)<(k:Int):=ag;by_cases Ba:c=t
   .subst Ba;have N9:=hA;have zJ:=hB;rw[<-aky]at N9 zJ;clear hA hB;go_wp2
    go_roundw
    case rel=>exact⟨c+1,ag,aV,N9,zJ,hO⟩
    case measure=>simp[intOf];omega
   .have atV:((c:Int)==(t:Int))=false:=aJ;have g1:wr.cell? ⟨h1,c,none⟩=some (.slice (some ⟨b1 c,0,none⟩) k k):=hA.head.cell qB;have g2:wr.cell? ⟨h1,t,none⟩=some (.slice (some ⟨b1 t,0,none⟩) k k):=hA.head.cell ht;have g3:wr.cell? ⟨h2,c,none⟩=some (.slice (some ⟨b2 c,0,none⟩) k k):=hB.head.cell qB;have g4:wr.cell? ⟨h2,t,none⟩=some (.slice (some ⟨b2 t,0,none⟩) k k):=hB.head.cell ht
    have g5:wr.cell? ⟨b1 c,t,none⟩=some (.int .u8 ((A c t).val:Int)):=by have:=(hA.rows c qB).cell ht;rw[akx]at this;exact this
    have r1:=hA.rows c qB;have r2:=hA.rows t ht;have r3:=hB.rows c qB;have r4:=hB.rows t ht;rw[akx]at r1 r3;rw[anE]at r2 r4
    have K1:∀w0:ah,w0.heap=wr.heap->w0.os=wr.os->w0.tape=wr.tape->w0.output=wr.output->Calls Tryz.prog 110 #[.slice (some ⟨b1 c,0,none⟩) k k,.int .u8 ((A c t).val:Int),.slice (some ⟨b1 t,0,none⟩) k k] w0 λe w'=>e=.returned (.tuple #[])/\Gi w' h1 k b1 (PR A A t (c+1))/\Gi w' h2 k b2 (PR A B t c)/\Cb (J9 k b1 b2) w w'/\(w'.cell? ⟨h1,c,none⟩=some (.slice (some ⟨b1 c,0,none⟩) k k)/\w'.cell? ⟨h1,t,none⟩=some (.slice (some ⟨b1 t,0,none⟩) k k)/\w'.cell? ⟨h2,c,none⟩=some (.slice (some ⟨b2 c,0,none⟩) k k)/\w'.cell? ⟨h2,t,none⟩=some (.slice (some ⟨b2 t,0,none⟩) k k)):=λw0 e e1 e2 e3=>by
     have m1:=hA.heap e;have m2:=hB.heap e;refine(PH (b1 c) (b1 t) k k k (A c) (A t) (A c t) w0 hk (r1.of_block iV) (r2.of_block iV) (by rw[e];exact r1.lt) (by rw[e];exact r2.lt) (hA.inj t c ht qB (λe=>Ba e.symm))).mono ?_;rintro q w' ⟨rfl,h,ho⟩;have n1:=m1.turn qB ho h;rw[acg A A Ba]at n1;have n2:=m2.oth ho (λx=>(hap.hr c qB).2 x) (λi hi x=>hap.rr c i qB hi x.symm);refine⟨rfl,n1,n2,?_,n1.head.cell qB,n1.head.cell ht,n2.head.cell qB,n2.head.cell ht⟩
     .exact(Cb.mk (S:=J9 k b1 b2) (e1.trans hO.os) (e2.trans hO.tape) (e3.trans hO.output) (by rw[e];exact hO.size) (λj hj hn=>awF)).trans ho λj _ x=>⟨c,qB,.inl x⟩
    have K2:∀w0 w1:ah,w0.heap=w1.heap->w0.os=w1.os->w0.tape=w1.tape->w0.output=w1.output->Gi w1 h1 k b1 (PR A A t (c+1))->Gi w1 h2 k b2 (PR A B t c)->Cb (J9 k b1 b2) w w1->Calls Tryz.prog 110 #[.slice (some ⟨b2 c,0,none⟩) k k,.int .u8 ((A c t).val:Int),.slice (some ⟨b2 t,0,none⟩) k k] w0 λe w'=>e=.returned (.tuple #[])/\Gi w' h1 k b1 (PR A A t (c+1))/\Gi w' h2 k b2 (PR A B t (c+1))/\Cb (J9 k b1 b2) w w'/\(w'.cell? ⟨h1,c,none⟩=some (.slice (some ⟨b1 c,0,none⟩) k k)/\w'.cell? ⟨h1,t,none⟩=some (.slice (some ⟨b1 t,0,none⟩) k k)/\w'.cell? ⟨h2,c,none⟩=some (.slice (some ⟨b2 c,0,none⟩) k k)/\w'.cell? ⟨h2,t,none⟩=some (.slice (some ⟨b2 t,0,none⟩) k k)):=λw0 w1 e e1 e2 e3 hA hB hO=>by
     have m1:=hA.heap e;have m2:=hB.heap e;have r3:=m2.rows c qB;have r4:=m2.rows t ht;rw[akx]at r3;rw[anE]at r4;refine(PH (b2 c) (b2 t) k k k (B c) (B t) (A c t) w0 hk r3 r4 r3.lt r4.lt (hB.inj t c ht qB (λe=>Ba e.symm))).mono ?_;rintro q w' ⟨rfl,h,ho⟩;have n1:=m2.turn qB ho h;rw[acg A B Ba]at n1;have n2:=m1.oth ho (λx=>(hap.hr c qB).1 x) (λi hi x=>hap.rr i c hi qB x);refine⟨rfl,n2,n1,?_,n2.head.cell qB,n2.head.cell ht,n1.head.cell qB,n1.head.cell ht⟩
     .exact(Cb.mk (S:=J9 k b1 b2) (e1.trans hO.os) (e2.trans hO.tape) (e3.trans hO.output) (by rw[e];exact hO.size) (λj hj hn=>awF)).trans ho λj _ x=>⟨c,qB,.inr x⟩
    clear r1 r2 r3 r4 hA hB;generalize(A c t).val=fac at*;generalize b1 c=b1c at*;generalize b1 t=b1t at*;generalize b2 c=b2c at*;generalize b2 t=b2t at*;go_wp2
    go_region_held3 (λw'=>w'.cell? ⟨h1,c,none⟩=some (.slice (some ⟨b1c,0,none⟩) k k)/\w'.cell? ⟨h1,t,none⟩=some (.slice (some ⟨b1t,0,none⟩) k k)) (go_keep)
     ((first
       |(go_at_call 110;refine(K1 _ aF aF aF aF).mono ?_;rintro q w2 ⟨rfl,N9,zJ,hO2,d1,d2,d3,d4⟩)))
    have K3:=λw0 e e1 e2 e3=>K2 w0 w2 e e1 e2 e3 N9 zJ hO2
    clear K1 K2 N9 zJ hO2;go_wp2
    go_region_held3 (λw'=>w'.cell? ⟨h2,c,none⟩=some (.slice (some ⟨b2c,0,none⟩) k k)/\w'.cell? ⟨h2,t,none⟩=some (.slice (some ⟨b2t,0,none⟩) k k)) (go_keep)
     ((first
       |(go_at_call 110;refine(K3 _ aF aF aF aF).mono ?_;rintro q w3 ⟨rfl,N9,zJ,hO2,d1,d2,d3,d4⟩)))
    have Tj:Gi w3 h1 k b1 (PR A A t (c+1)):=dG;have F8:Gi w3 h2 k b2 (PR A B t (c+1)):=dG;have hO3:Cb (J9 k b1 b2) w w3:=dG;go_wp2
    go_roundw
    case rel=>exact⟨c+1,ag,aV,Tj,F8,hO3⟩
    case measure=>simp[intOf];omega
  .obtain rfl:c=k:=ag;have E5:¬((c:Int)<(c:Int)):=ag;go_wp2;go_end0;exact⟨rfl,hA,hB,hO⟩
theorem akz(k i j:Nat)(hi:i<k):((if j=i then(1:F)else 0).val:Nat)=sN k i j:=by unfold sN;rw[ax hi];split<;>rfl
theorem ach{w w':ah}{k:Nat}(h:Iz w w' k k k (sN k)):Gi w' w.heap.size k (λi=>w.heap.size+1+i) (λi j=>if j=i then 1 else 0):=
 ⟨h.head.congr λi hi=>by unfold aci;rw[ax hi],λi hi=>(h.rows i hi).congr λj hj=>by simp only[fv];rw[akz k i j hi],λi j _ _ hne=>ag,λi hi=>ag⟩
def am5(k:Nat)(b1:Nat->Nat)(M:Nat->Nat->F)(w:ah)(e:Ending)(w':ah):Prop:=
 ∃h2 b2 A B,e=.returned (.slice (some ⟨h2,0,none⟩) k k)/\Gi w' h2 k b2 B/\F.Gj k M k A B/\Cb (λx=>∃i,i<k/\x=b1 i) w w'/\w.heap.size<=h2/\∀i,i<k->w.heap.size<=b2 i
def W9(A:Nat->Nat->F)(t:Nat)(r:Nat->F)(i:Nat):Nat->F:=if i=t then r else A i
theorem apo(A:Nat->Nat->F)(t k:Nat){i:Nat}(hi:i<k):PR (W9 A t (F.scaled (F.iv (A t t)) (A t))) (W9 A t (F.scaled (F.iv (A t t)) (A t))) t k i=F.M_ A t i:=by
 unfold PR F.M_ W9;by_cases e:i=t
 .rw[au ag,ax e,ax e]
 .rw[ax ⟨hi,e⟩,au e,ax rfl,au e]
theorem apq(A B:Nat->Nat->F)(t k:Nat){i:Nat}(hi:i<k):PR (W9 A t (F.scaled (F.iv (A t t)) (A t))) (W9 B t (F.scaled (F.iv (A t t)) (B t))) t k i=F.Na A B t i:=by
 unfold PR F.Na W9;by_cases e:i=t
 .rw[au ag,ax e,ax e]
 .rw[ax ⟨hi,e⟩,au e,au e,au e,ax rfl]
theorem aaD(k h1:Nat)(b1:Nat->Nat)(M:Nat->Nat->F)(px:Nat->F)(w:ah)(hk:k<=128)(hM:Gi w h1 k b1 M)(hS:F.Sq k px M):
  Calls Tryz.prog 76 #[.slice (some ⟨h1,0,none⟩) k k] w λe w'=>am5 k b1 M w e w':=by
 obtain⟨w1,hmk,h0⟩:=W_ k k hk (sN k) w;go_enter Tryz.func76,Tryz.ntmps76;go_wp2;clear hmk
 go_loopw [12] (λvi wr=>∃c:Nat,c<=k/\vi=.int .i64 (c:Int)/\Iz w wr k k c (sN k)) (λi _=>k-(intOf i).toNat)
 case atStart=>exact⟨0,ag,rfl,h0⟩
 case round=>
  obtain⟨c,hc,rfl,hN⟩:=hrel;clear h0;by_cases qB:c<k
  .have hz:=hN.size;have xZ:(c:Int)<(k:Int):=ag
   have hcell:∀w',zT wr w' k (sN k c)->w'.cell? ⟨w.heap.size,c,none⟩=some (.slice none 0 0)/\w'.frozen? ⟨w.heap.size,c,none⟩=false:=λw' h=>by have hr:=hN.head.of_block (h.below.block w.heap.size ag);refine⟨?_,hr.frozen c⟩;have:=hr.cell qB;rw[this];unfold aci;rw[au ag]
   have HZ:Hid (wr.heap.size=w.heap.size+1+c):=hz;clear hz
   go_wp2_with(first|(go_at_call 93;refine(RJ _ _ hk qB _).mono ?_;rintro e w2 ⟨rfl,h2⟩;obtain⟨hc2,hf2⟩:=hcell _ h2;have h3:=hN.step h2;clear h2))
   go_roundw
   case rel=>exact⟨c+1,ag,aV,h3⟩
   case measure=>simp[intOf];omega
  .obtain rfl:c=k:=ag;have E5:¬((c:Int)<(c:Int)):=ag;have PW:=ach hN;have hA0:Gi wr h1 c b1 M:=hM.oth (S:=λ_=>False) (Cb.below hN.below) (λx=>x) (λ_ _ x=>x);have tV:∀i,i<c->b1 i<w.heap.size:=λi hi=>(hM.rows i hi).lt
   have hh1:h1<w.heap.size:=hM.head.lt;have hap:Apart c h1 w.heap.size b1 (λi=>w.heap.size+1+i):=⟨λi j hi hj=>by have:=tV i hi;omega,λi hi=>⟨ag,by have:=tV i hi;omega⟩,ag⟩;have hO0:Cb (λx=>∃i,i<c/\x=b1 i) w wr:=Cb.below hN.below;have hsz:=hN.size;go_wp2;clear hM hN;generalize hNN:w.heap.size=N at*;generalize Ah:(λi=>N+1+i)=b2 at*;have rq:∀i,N<=b2 i:=λi=>by rw[<-Ah];show N<=N+1+i;omega
   clear Ah
   go_loopw [25] (λvi wr=>∃t:Nat,t<=c/\vi=.int .i64 (t:Int)/\∃A B,Gi wr h1 c b1 A/\Gi wr N c b2 B/\F.Gj c M t A B/\Cb (λx=>∃i,i<c/\x=b1 i) w wr) (λi _=>c-(intOf i).toNat)
   case atStart=>exact⟨0,ag,rfl,_,_,hA0,PW,F.aa5 c M,hO0⟩
   case round=>
    clear hA0 PW hO0;obtain⟨t,ht,rfl,A,B,hA,hB,hG,hO⟩:=hrel;by_cases qB:t<c
    .have xZ:(t:Int)<(c:Int):=ag;have hG2:=F.ae1 hS hG qB;have g1:wr.cell? ⟨h1,t,none⟩=some (.slice (some ⟨b1 t,0,none⟩) c c):=hA.head.cell qB;have g5:wr.cell? ⟨b1 t,t,none⟩=some (.int .u8 ((A t t).val:Int)):=(hA.rows t qB).cell qB;have K0:=aeK (A t t).val (A t t).isLt wr;have K1:=Yr (b1 t) c c (A t) (F.iv (A t t)) wr hk (hA.rows t qB) (hA.rows t qB).lt
     have K2:∀w2,w2.rowIs (b1 t) 5 c (fv (F.scaled (F.iv (A t t)) (A t)))->Cb (· =b1 t) wr w2->w2.cell? ⟨N,t,none⟩=some (.slice (some ⟨b2 t,0,none⟩) c c)/\Calls Tryz.prog 95 #[.slice (some ⟨b2 t,0,none⟩) c c,.int .u8 ((F.iv (A t t)).val:Int)] w2 λe w'=>e=.returned (.tuple #[])/\Gi w' h1 c b1 (W9 A t (F.scaled (F.iv (A t t)) (A t)))/\Gi w' N c b2 (W9 B t (F.scaled (F.iv (A t t)) (B t)))/\Cb (J9 c b1 b2) wr w':=λw2 hr ho=>by have m1:=hA.turn qB ho hr;have m2:=hB.oth ho (λx=>(hap.hr t qB).2 x) (λi hi x=>hap.rr t i qB hi x.symm);refine⟨m2.head.cell qB,(Yr (b2 t) c c (B t) (F.iv (A t t)) w2 hk (m2.rows t qB) (m2.rows t qB).lt).mono ?_⟩;rintro q w' ⟨rfl,h,ho2⟩;exact⟨rfl,m1.oth ho2 (λx=>(hap.hr t qB).1 x) (λi hi x=>hap.rr i t hi qB x),m2.turn qB ho2 h,(ho.mono (S':=J9 c b1 b2) λx e=>⟨t,qB,.inl e⟩).trans ho2 λj _ x=>⟨t,qB,.inr x⟩⟩
     have K3:∀w2,Gi w2 h1 c b1 (W9 A t (F.scaled (F.iv (A t t)) (A t)))->Gi w2 N c b2 (W9 B t (F.scaled (F.iv (A t t)) (B t)))->Cb (J9 c b1 b2) wr w2->Calls Tryz.prog 96 #[.slice (some ⟨h1,0,none⟩) c c,.slice (some ⟨N,0,none⟩) c c,.int .i64 (t:Int)] w2 λe w'=>e=.returned (.tuple #[])/\Gi w' h1 c b1 (F.M_ A t)/\Gi w' N c b2 (F.Na A B t)/\Cb (λx=>∃i,i<c/\x=b1 i) w w':=λw2 m1 m2 ho=>by
      refine(VI c h1 N t b1 b2 _ _ w2 hk qB m1 m2 hap).mono ?_;rintro q w' ⟨rfl,n1,n2,ho2⟩;refine⟨rfl,n1.congr λi j hi _=>congrFun (apo A t c hi) j,n2.congr λi j hi _=>congrFun (apq A B t c hi) j,hO.trans (ho.trans ho2 λ_ _ x=>x) λx hx=>?_⟩;rintro⟨i,hi,e|e⟩
      .exact⟨i,hi,e⟩
      .have:=rq i;omega
     clear hG hA hB;have eiv:(F.iv (A t t)).val=inv (A t t).val:=rfl;rw[eiv]at K1 K2;generalize inv (A t t).val=fac at*;generalize(A t t).val=xtt at*;generalize b1 t=b1t at*;generalize b2 t=b2t at*
     go_wp2_with(first
      |(go_at_call 94;(with_reducible refine K0.mono ?_);rintro e w' ⟨rfl,sH⟩;obtain rfl:=sH.symm)
      |(go_at_call 95;(with_reducible refine K1.mono ?_);rintro e w2 ⟨rfl,s1,s2⟩;obtain⟨g2,K2'⟩:=K2 w2 s1 s2)
      |(go_at_call 95;(with_reducible refine K2'.mono ?_);rintro e w3 ⟨rfl,s3,s4,s5⟩;have K3':=K3 w3 s3 s4 s5)
      |(go_at_call 96;(with_reducible refine K3'.mono ?_);rintro e w4 ⟨rfl,s6,s7,s8⟩))
     go_roundw
     case rel=>exact⟨t+1,ag,aV,_,_,s6,s7,hG2,s8⟩
     case measure=>simp[intOf];omega
    .obtain rfl:t=c:=ag;have E5:¬((t:Int)<(t:Int)):=ag;go_wp2;go_ret;exact⟨N,b2,A,B,rfl,hB,hG,hO,ag,λi _=>by rw[hNN];exact rq i⟩
end Go.Proofs.Y
namespace Go.Proofs.Y
def e1:Option Nat->Nat
 |some _=>0
 |none=>1
def un(fl:Nat->Option Nat):Nat->Nat
 |0=>0
 |t+1=>un fl t+e1 (fl t)
theorem am6(t:Nat):un (λ_=>none) t=t:=by
 induction t with
 |zero=>rfl
 |succ t ih=>rw[un,ih];rfl
theorem akA(fl:Nat->Option Nat)(p i:Nat)(h:fl p=none):∀t,un (λx=>if x=p then some i else fl x) t+(if p<t then 1 else 0)=un fl t
 |0=>rfl
 |t+1=>by
  have ih:=akA fl p i h t;simp only[un];by_cases e:t=p
  .subst e;rw[au ag]at ih;rw[ax rfl,ax ag,h];simp only[e1];omega
  .rw[au e];by_cases e2:p<t
   .rw[ax e2]at ih;rw[ax ag];omega
   .rw[au e2]at ih;rw[au ag];omega
theorem akB(fl:Nat->Option Nat){a b:Nat}(h:a<=b):un fl a<=un fl b:=by
 induction b with
 |zero=>
  obtain rfl:a=0:=ag;exact ay _
 |succ b ih=>
  rcases bK a (b+1)with h1|h1
  .exact bF (ih ag) (by rw[un];omega)
  .obtain rfl:a=b+1:=ag;exact ay _
structure Pl(k:Nat)(ix:Nat->Nat)(c:Nat)(fl:Nat->Option Nat)(O:aC):Prop where
 fl1:∀t i,fl t=some i->i<c/\ix i=t/\t<k
 fl2:∀i,i<c->ix i<k->fl (ix i)=some i
 o1:∀(m i:Nat),O[m]?=some i->i<c/\k<=ix i
 o2:∀i,i<c->k<=ix i->∃m:Nat,O[m]?=some i
 o3:∀(m m' i:Nat),O[m]?=some i->O[m']?=some i->m=m'
 cnt:O.length+k=c+un fl k
theorem aa4(k:Nat)(ix:Nat->Nat):Pl k ix 0 (λ_=>none) []:=
 ⟨λ_ _ h=>gp,λ_ h=>absurd h ag,λ_ _ h=>lh,λ_ h=>absurd h ag,λ_ _ _ h=>lh,by rw[am6];simp⟩
theorem Pl.own{k c:Nat}{ix:Nat->Nat}{fl:Nat->Option Nat}{O:aC}(h:Pl k ix c fl O)(hi:∀i,i<c->ix i≠ix c)(hc:ix c<k):fl (ix c)=none/\Pl k ix (c+1) (λx=>if x=ix c then some c else fl x) O:=by
 have hn:fl (ix c)=none:=by
  cases hf:fl (ix c)with
  |none=>rfl
  |some i=>
   obtain⟨h1,h2,_⟩:=h.fl1 _ _ hf;exact absurd h2 (hi i h1)
 refine⟨hn,λt i ht=>?_,λi YD Jd=>?_,λm i hm=>?_,λi YD Jd=>?_,h.o3,?_⟩
 .by_cases e:t=ix c
  .rw[ax e]at ht;cases ht;exact⟨ag,e.symm,ag⟩
  .rw[au e]at ht;obtain⟨h1,h2,h3⟩:=h.fl1 t i ht;exact⟨ag,h2,h3⟩
 .by_cases e:i=c
  .subst e;rw[ax rfl]
  .rw[au (hi i ag),h.fl2 i ag Jd]
 .exact ays
 .have:i≠c:=by rintro rfl;omega
  exact h.o2 i ag Jd
 .have h1:=akA fl (ix c) c hn k;rw[ax hc]at h1;have h2:=h.cnt;omega
theorem Pl.other{k c:Nat}{ix:Nat->Nat}{fl:Nat->Option Nat}{O:aC}(h:Pl k ix c fl O)(hc:k<=ix c):Pl k ix (c+1) fl (O++[c]):=by
 refine⟨λt i ht=>?_,λi YD Jd=>?_,λm i hm=>?_,λi YD Jd=>?_,λm m' i hm Tf=>?_,?_⟩
 .obtain⟨h1,h2⟩:=h.fl1 t i ht;exact⟨ag,h2⟩
 .have:i≠c:=by rintro rfl;omega
  exact h.fl2 i ag Jd
 .rw[o9]at hm;split at hm
  .exact ays
  .have:i=c:=by
    cases hmm:m-O.length with
    |zero=>rw[hmm]at hm;simp at hm;exact hm.symm
    |succ x=>rw[hmm]at hm;simp at hm
   subst this;exact⟨ag,hc⟩
 .by_cases e:i=c
  .subst e;exact⟨O.length,aA⟩
  .obtain⟨m,hm⟩:=h.o2 i ag Jd;exact⟨m,by rw[o9,ax (fB.1 hm).1];exact hm⟩
 .have key:∀m:Nat,(O++[c])[m]?=some i->(m<O.length/\O[m]?=some i)\/(m=O.length/\i=c):=by
   intro m hm;rw[o9]at hm;split at hm
   .exact .inl ⟨dG,hm⟩
   .refine .inr ?_;cases hmm:m-O.length with
    |zero=>rw[hmm]at hm;simp at hm;exact⟨ag,hm.symm⟩
    |succ x=>rw[hmm]at hm;simp at hm
  rcases key m hm with⟨h1,h2⟩|⟨h1,h2⟩<;>rcases key m' Tf with⟨h3,h4⟩|⟨h3,h4⟩
  .exact h.o3 m m' i h2 h4
  .have:=(h.o1 m i h2).1;omega
  .have:=(h.o1 m' i h4).1;omega
  .omega
 .have:=h.cnt;simp;omega
def sg(fl:Nat->Option Nat)(O:aC)(t:Nat):Nat:=match fl t with
 |some i=>i
 |none=>O.getD (un fl t) 0
theorem Pl.room{k:Nat}{ix:Nat->Nat}{fl:Nat->Option Nat}{O:aC}(h:Pl k ix k fl O){t:Nat}(ht:t<k)(hf:fl t=none):un fl t<O.length:=by have h1:=akB fl (show t+1<=k by omega);have h2:=h.cnt;rw[un,hf]at h1;simp only[e1]at h1;omega
theorem akC(fl:Nat->Option Nat):∀(k m:Nat),m<un fl k->∃t,t<k/\fl t=none/\un fl t=m
 |0,m,h=>absurd h (by simp[un])
 |k+1,m,h=>by
  rcases bK m (un fl k)with h1|h1
  .obtain⟨t,h2,h3⟩:=akC fl k m h1;exact⟨t,ag,h3⟩
  .rw[un]at h;cases hf:fl k with
   |some i=>rw[hf]at h;simp only[e1]at h;omega
   |none=>
    rw[hf]at h;simp only[e1]at h;exact⟨k,ag,hf,ag⟩
structure FT(k:Nat)(ix σ:Nat->Nat):Prop where
 lt:∀t,t<k->σ t<k
 on:∀t,t<k->ix (σ t)<k->ix (σ t)=t
 inj:∀t u,t<k->u<k->t≠u->ix (σ t)≠ix (σ u)
 all:∀i,i<k->∃t,t<k/\σ t=i
theorem Pl.akV{k:Nat}{ix:Nat->Nat}{fl:Nat->Option Nat}{O:aC}(h:Pl k ix k fl O)(hi:∀i j,i<k->j<k->i≠j->ix i≠ix j):FT k ix (sg fl O):=by
 have hO:∀t,t<k->fl t=none->O[un fl t]?=some (sg fl O t):=λt ht hf=>by have:=h.room ht hf;simp only[sg,hf];rw[bG,bQ this];rfl
 have lt:∀t,t<k->sg fl O t<k:=λt ht=>by
  cases hf:fl t with
  |some i=>simp only[sg,hf];exact(h.fl1 t i hf).1
  |none=>exact(h.o1 _ _ (hO t ht hf)).1
 have mono:∀t u,t<u->fl t=none->un fl t<un fl u:=λt u htu hf=>by have:=akB fl (show t+1<=u from htu);rw[un,hf]at this;simp only[e1]at this;omega
 refine⟨lt,λt ht hx=>?_,λt u ht hu hne=>?_,λi Jd=>?_⟩
 .cases hf:fl t with
  |some i=>simp only[sg,hf];exact(h.fl1 t i hf).2.1
  |none=>have:=(h.o1 _ _ (hO t ht hf)).2;omega
 .refine hi _ _ (lt t ht) (lt u hu) λe=>?_
  cases hf:fl t with
  |some i=>
   cases hg:fl u with
   |some j=>
    have h1:=(h.fl1 t i hf).2.1;have h2:=(h.fl1 u j hg).2.1;simp only[sg,hf,hg]at e;subst e;omega
   |none=>
    have h1:=(h.o1 _ _ (hO u hu hg)).2;rw[<-e]at h1;simp only[sg,hf]at h1;have h2:=(h.fl1 t i hf).2;omega
  |none=>
   have h0:=hO t ht hf;cases hg:fl u with
   |some j=>
    have h1:=(h.o1 _ _ h0).2;rw[e]at h1;simp only[sg,hg]at h1;have h2:=(h.fl1 u j hg).2;omega
   |none=>
    have h1:=hO u hu hg;rw[e]at h0;have h2:=h.o3 _ _ _ h0 h1;rcases bK t u with h3|h3
    .have:=mono t u h3 hf;omega
    .have:=mono u t ag hg;omega
 .rcases bK (ix i) k with hx|hx
  .exact⟨ix i,hx,by simp only[sg,h.fl2 i Jd hx]⟩
  .obtain⟨m,hm⟩:=h.o2 i Jd hx;have hml:=(fB.1 hm).1;have:=h.cnt;obtain⟨t,h1,h2,h3⟩:=akC fl k m ag;refine⟨t,h1,?_⟩;have:=hO t h1 h2;rw[h3,hm]at this;cases this;rfl
end Go.Proofs.Y
namespace Go.Proofs.Y
open Go.RowKit Go.Deep
def ate(c:Int):Prop:= -9223372036854775808<=c/\c<9223372036854775808
structure aud(w:ah)(v:ai)(zs:dM):Prop where
 U1:∀z∈zs,ate z
 lies:(∃cap bo,zs=[]/\v=.slice bo 0 cap)\/∃b off cap,v=.slice (some ⟨b,off,none⟩) zs.length cap/\b<w.heap.size/\∀j z,zs[j]?=some z->w.cell? ⟨b,off+j,none⟩=some (.int .i64 z)
structure asQ(n:Nat)(xs:aC):Prop where
 len:xs.length=n
 lt:∀(i x:Nat),xs[i]?=some x->x<n
 inj:∀(i j x:Nat),xs[i]?=some x->xs[j]?=some x->i=j
