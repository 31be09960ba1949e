import Derived.Test.YtnbflnamlpodcaaGreatDoorRowW
import Derived.Deep.WholeRow
set_option maxHeartbeats 2000000
set_option maxRecDepth 100000
namespace Go.Proofs.Y
open Go.Proofs.Tryz
open Go.RowKit Go.Deep
def aaD(w:ah)(v:ai)(l:ak):Prop:=
 (v=.slice none 0 0/\l=[])\/∃a cap,v=.slice (some a) l.length cap/\∀j (hj:j<l.length),w.cell? (a.add j)=some (.int .u8 (l[j].toNat:Int))
theorem aaD.string{w:ah}{v:ai}{l:ak}(h:aaD w v l):(convert 34 9 v).run prog w=.ok (.string ⟨l.toArray⟩) w:=by
 rcases h with⟨rfl,rfl⟩|⟨a,cap,rfl,hc⟩
 .rw[run_convert_bytes_string w 34 9 5 none 0 0 underlying34 underlying5 underlying9];rfl
 .exact run_convert_bytes_back w 34 9 5 a cap l underlying34 underlying5 underlying9 hc
theorem ade(x:Int):∀u∈[Value.int .u8 x],u.oneCell'=true:=avy
theorem aeJ{P:aN}{o:Oper}{a:Act}{w:ah}{K:Act->ah->Prop}{Q:Exit->Act->ah->Prop}{t:aF}{x:Operand}{N:Nat}{v:ai}(ho:o.op=.load t x)(hx:a.eval x=.pointer (some ⟨N,0,none⟩))(hl:(loadVar t ⟨N,0,none⟩).run P w=.ok v w)(h:K (a.put o.dst v) w):o.wp P a w K Q:=by unfold Oper.wp;rw[S_ ho hx hl];exact h
theorem PY{w:ah}{N:Nat}{c c':aB}(h:w.heap[N]?=some (.cells c 209))(hc:c.size=256)(hc':c'.size=256)(h1:∀v∈c',v.oneCell'=true):
  (storeCells ⟨N,0,none⟩ c'.toList).run prog w=.ok () (w.setRow N c'):=by
 have:=run_storeCells_from (P:=prog) N _ c'.toList 0 c w h aS (λv hv=>h1 v (by simpa using hv));rw[this]
 congr 2
structure PT(w:ah)(f m:Nat)(w':ah):Prop where
 h2:w'.heap[w.heap.size]?=some (.cells Tryz.zeroCells209 209)
 h3:w'.heap[w.heap.size+1]?=some (.cells (zX f m) 209)
 size:w'.heap.size=w.heap.size+2
 below:Below w.heap.size w w'
theorem PT.start(w:ah)(f:Nat):PT w f 1 ((w.alloc (.cells Tryz.zeroCells209 209)).alloc (.cells Tryz.zeroCells209 209)):=by
 have e:zX f 1=Tryz.zeroCells209:=by
  rw[Es f,<-PV f 0];apply mi;intro i;rw[pW];by_cases h:0=i
  .subst h;rw[ay rfl,ay (by simp[zX]),CY f 0 0 ag,zero_mul];rfl
  .rw[au h]
 refine⟨?_,?_,ax,((aT _ _).alloc (az _) _).alloc ax _⟩
 .exact ay5
 .show((w.heap.push _).push _)[w.heap.size+1]?=_;rw[iI,ay ax,e]
theorem PT.set{w w':ah}{f m:Nat}(h:PT w f m w'):PT w f (m+1) (w'.setCell ⟨w.heap.size+1,m,none⟩ (.int .u8 ((mul m f:Nat):Int))):=
 ⟨(jR w' ⟨w.heap.size+1,m,none⟩ w.heap.size _ awr).trans h.h2,by rw[heap_set _ h.h3,PV],awe,h.below.setCell aws _⟩
theorem PZ(f:Nat)(hf:f<256)(w:ah):
  Calls prog 118 #[.int .u8 (f:Int)] w λe w'=>e=.returned (.agg (zX f 256))/\Below w.heap.size w w':=by
 have h0:=PT.start w f;generalize hz:Tryz.zeroCells209=Z at h0;go_enter func118,ntmps118;go_wp2;generalize(w.alloc (Obj.cells Z 209)).alloc (Obj.cells Z 209)=w0 at h0⊢;subst hz
 go_loopw [0,4] (λvf vb wr=>∃k b fa:Nat,k<=8/\afS k b/\(k<8->fa=mul b f)/\fa<256/\vf=.int .u8 (fa:Int)/\vb=.int .i64 (b:Int)/\PT w f b wr) (λ_ b _=>512-(intOf b).toNat)
 case atStart=>exact⟨0,1,f,ag,rfl,λ_=>by rw[mul_comm ag hf,mul_one hf],hf,rfl,rfl,h0⟩
 case round=>
  clear h0;obtain⟨k,b,fa,hk,Jk,hfa,hfl,rfl,rfl,hT⟩:=hrel
  have hk8:b<=256:=by exact ay_
  have uu:1<=b:=axv;by_cases qK:b<256
  .have hk7:k<8:=by
    rcases bJ k 8 with h|h
    .exact h
    .obtain rfl:k=8:=ag;have:b=256:=Jk;omega
   obtain rfl:=hfa hk7;clear hfa;have Am:(b:Int)<256:=ag;go_wp2
   go_loopw [11] (λvj wr=>∃j:Nat,j<=b/\vj=.int .i64 (j:Int)/\PT w f (b+j) wr) (λj _=>b-(intOf j).toNat)
   case atStart=>exact⟨0,ag,rfl,hT⟩
   case round=>
    clear hT;obtain⟨j,hj,rfl,hT⟩:=hrel;by_cases hjb:j<b
    .have avf:(j:Int)<(b:Int):=ag
     have hbj:b+j<256:=by have:∀k:Fin 8,2^k.val*2<=256:=aC;have:=this ⟨k,hk7⟩;have e:b=2^k:=Jk;simp only at this;omega
     have ev:mul (b+j) f=mul j f^^^mul b f:=by have e:b=2^k:=Jk;rw[e];exact pow_add ⟨k,hk7⟩ j f (by rw[<-e];exact hjb)
     have c1:wr.cell? ⟨w.heap.size+1,j,none⟩=some (.int .u8 ((mul j f:Nat):Int)):=by rw[cell_of _ hT.h3,CY _ _ _ ag,ay ag]
     have c2:wr.cell? ⟨w.heap.size+1,b+j,none⟩=some (.int .u8 0):=by rw[cell_of _ hT.h3,CY _ _ _ hbj,au ag];rfl
     have f2:wr.frozen? ⟨w.heap.size+1,b+j,none⟩=false:=wK _ hT.h3 _;have hm1:mul j f<256:=mul_lt ag;have hx:bits .xor .u8 ((mul j f:Nat):Int) ((mul b f:Nat):Int)=((mul (b+j) f:Nat):Int):=by rw[ev];exact u8_xor_nat _ _ hm1 hfl
     have WV:=hT.set;generalize mul (b+j) f=q at WV hx;generalize mul j f=p at c1 hx hm1;clear ev;go_wp2
     go_roundw
     case rel=>exact⟨j+1,ag,bU,WV⟩
     case measure=>simp[intOf];omega
    .obtain rfl:j=b:=ag;have Hg:¬((j:Int)<(j:Int)):=ag;have hkb:k+1<=8:=ag
     have htx:k+1<8->tx (mul j f)=mul (j+j) f:=λh=>by have e:j=2^k:=Jk;have:=akT ⟨k,ag⟩ ⟨f,hf⟩;rw[e,show 2^k+2^k=2^(k+1)by omega];exact this
     have CE:afS (k+1) (j+j):=by have e:j=2^k:=Jk;show j+j=2^(k+1);omega
     have Y9:=ML hfl;have BD:=V8 (mul j f) hfl;generalize mul j f=fa at*
     go_wp2_with(first|(go_at_call 128;(with_reducible refine(BD _).mono ?_);rintro e w' ⟨rfl,uf⟩;obtain rfl:=uf.symm))
     go_roundw
     case rel=>exact⟨k+1,j+j,tx fa,hkb,CE,htx,Y9,rfl,bU,hT⟩
     case measure=>simp[intOf];omega
  .have e:b=256:=ag;subst e;have hl:=KD hT.h3 (uP f 256);have hs:=PY hT.h2 awQ (uP f 256) (Js f 256);have Uf:=OI (zX f 256) hT.h2;have tX:Below w.heap.size w (wr.setRow w.heap.size (zX f 256)):=⟨hT.below.os,hT.below.tape,hT.below.output,by rw[xP];exact hT.below.size,λk hk=>(um wr _ ag).trans (hT.below.block k hk)⟩;have hsz:=uP f 256;generalize hTT:zX f 256=T at*;go_wp2;refine aeJ rfl rfl hl ?_
   apply_assumption
   go_wp2;refine iD (oI (p:=2) rfl _ _ w.heap.size 209 _ (0,0) _ aI Uf underlying209 rfl (by rw[hsz];exact anw)) rfl ?_;exact⟨by rw[hTT],tX⟩
end Go.Proofs.Y
namespace Go.Proofs.Y
open Go.Proofs.Tryz
abbrev F:=Fin 256
namespace F
def add(a b:F):F:=⟨a.val^^^b.val,Dx a.isLt b.isLt⟩
def mu(a b:F):F:=⟨mul a.val b.val,mul_lt a.isLt⟩
def iv(a:F):F:=⟨inv a.val,aip a.isLt⟩
theorem add_comm(a b:F):add a b=add b a:=fV (jv _ _)
theorem add_assoc(a b c:F):add (add a b) c=add a (add b c):=fV (dG _ _ _)
theorem KH(a b c:F):add a (add b c)=add b (add a c):=by rw[<-add_assoc,add_comm a b,add_assoc]
theorem Dp(a:F):add a a=0:=fV (jc _)
theorem add_zero(a:F):add a 0=a:=fV (nI _)
theorem zero_add(a:F):add 0 a=a:=by rw[add_comm,add_zero]
theorem Nl(a b:F):add a (add a b)=b:=by rw[<-add_assoc,Dp,zero_add]
theorem y_(a b:F):mu a b=mu b a:=fV (mul_comm a.isLt b.isLt)
theorem Fg(a b c:F):mu (mu a b) c=mu a (mu b c):=fV (mul_assoc a.isLt b.isLt c.isLt).symm
theorem IG(a b c:F):mu a (mu b c)=mu b (mu a c):=by rw[<-Fg,y_ a b,Fg]
theorem Oc(a b c:F):mu a (add b c)=add (mu a b) (mu a c):=fV (wW _ _ a.isLt)
theorem ala(a b c:F):mu (add a b) c=add (mu a c) (mu b c):=fV (xQ _ a.isLt b.isLt)
theorem F6(a:F):mu a 0=0:=fV (mul_zero a.val)
theorem Ei(a:F):mu 0 a=0:=by rw[y_,F6]
theorem aeK(a:F):mu a 1=a:=fV (mul_one a.isLt)
theorem Bv(a:F):mu 1 a=a:=by rw[y_,aeK]
theorem KJ{a:F}(h:a≠0):mu a (iv a)=1:=fV (alZ a.isLt λe=>h (fV e))
theorem alb{a:F}(h:a≠0):mu (iv a) a=1:=by rw[y_,KJ h]
theorem alc:(1:F)≠0:=aC
theorem ahK{a b:F}(h:add a b=0):a=b:=by have:=bI (add a) h;rw[Nl,add_zero]at this;exact this.symm
theorem Rn{a b:F}(h:a≠b):add a b≠0:=λe=>h (ahK e)
theorem LV{a b c:F}(ha:a≠0)(h:mu a b=mu a c):b=c:=by have:=bI (mu (iv a)) h;rwa[<-Fg,<-Fg,alb ha,Bv,Bv]at this
theorem asq{a:F}(ha:a≠0):iv a≠0:=λe=>alc (by rw[<-KJ ha,e,F6])
theorem key{u a b z:F}(h1:add u b≠0)(h2:add z b≠0)(h3:add u z≠0)(h4:add a z≠0)(x:F):
  add (mu (iv (add u z)) (mu x (mu (add a z) (iv (add z b))))) (mu (mu (add a b) (iv (add u b))) (mu (iv (add a z)) (mu x (mu (add a z) (iv (add z b))))))=mu (mu (add u a) (iv (add u b))) (mu (iv (add u z)) x):=by
 have e4:mu (iv (add a z)) (mu x (mu (add a z) (iv (add z b))))=mu x (iv (add z b)):=by rw[IG x,<-Fg,alb h4,Bv]
 rw[e4];apply LV h1;apply LV h2;apply LV h3
 have t1:mu (add u z) (mu (add z b) (mu (add u b) (mu (iv (add u z)) (mu x (mu (add a z) (iv (add z b)))))))=mu x (mu (add a z) (add u b)):=by
  calc _=mu (mu (add u z) (iv (add u z))) (mu (mu (add z b) (iv (add z b))) (mu x (mu (add a z) (add u b)))):=by simp only[y_,IG]
   _=_:=by rw[KJ h3,KJ h2,Bv,Bv]
 have t2:mu (add u z) (mu (add z b) (mu (add u b) (mu (mu (add a b) (iv (add u b))) (mu x (iv (add z b))))))=mu x (mu (add a b) (add u z)):=by
  calc _=mu (mu (add u b) (iv (add u b))) (mu (mu (add z b) (iv (add z b))) (mu x (mu (add a b) (add u z)))):=by simp only[y_,IG]
   _=_:=by rw[KJ h1,KJ h2,Bv,Bv]
 have t3:mu (add u z) (mu (add z b) (mu (add u b) (mu (mu (add u a) (iv (add u b))) (mu (iv (add u z)) x))))=mu x (mu (add u a) (add z b)):=by
  calc _=mu (mu (add u b) (iv (add u b))) (mu (mu (add u z) (iv (add u z))) (mu x (mu (add u a) (add z b)))):=by simp only[y_,IG]
   _=_:=by rw[KJ h1,KJ h3,Bv,Bv]
 rw[Oc (add u b),Oc (add z b),Oc (add u z),t1,t2,t3,<-Oc];refine bI (mu x) ?_;simp only[Oc,ala];simp only[y_,add_assoc,add_comm,KH,Nl,Dp,zero_add]
def sum:aA->(Nat->F)->F
 |[],_=>0
 |i::l,f=>add (f i) (sum l f)
theorem ED{l:aA}{f g:Nat->F}(h:∀i∈l,f i=g i):sum l f=sum l g:=by
 induction l with
 |nil=>rfl
 |cons i l ih=>rw[sum,sum,h i ax,ih λj hj=>h j kF]
theorem sum_add(l:aA)(f g:Nat->F):sum l (λi=>add (f i) (g i))=add (sum l f) (sum l g):=by
 induction l with
 |nil=>exact(add_zero 0).symm
 |cons i l ih=>simp only[sum,ih,add_assoc,KH]
theorem aaF(l:aA)(c:F)(f:Nat->F):sum l (λi=>mu c (f i))=mu c (sum l f):=by
 induction l with
 |nil=>exact(F6 c).symm
 |cons i l ih=>rw[sum,sum,ih,Oc]
theorem ald(l:aA){f:Nat->F}(h:∀i∈l,f i=0):sum l f=0:=by
 induction l with
 |nil=>rfl
 |cons i l ih=>rw[sum,h i ax,ih λj hj=>h j kF,add_zero]
theorem aeL(l:aA)(p:Nat->Bool)(f:Nat->F)(h:∀i∈l,p i=false->f i=0):sum (l.filter p) f=sum l f:=by
 induction l with
 |nil=>rfl
 |cons i l ih=>
  have:=ih λj hj=>h j kF
  cases hp:p i with
  |true=>rw[List.filter_cons_of_pos avk,sum,sum,this]
  |false=>rw[List.filter_cons_of_neg avk,sum,this,h i ax hp,zero_add]
theorem IJ{l:aA}(hl:l.Nodup){f:Nat->F}{t:Nat}(ht:t∈l)(h:∀i∈l,i≠t->f i=0):sum l f=f t:=by
 induction l with
 |nil=>cases ht
 |cons i l ih=>
  rw[List.nodup_cons]at hl;rw[sum];rcases dX.1 ht with rfl|ht'
  .rw[ald l λj hj=>h j kF (λe=>hl.1 (e▸hj)),add_zero]
  .rw[h i ax (λe=>hl.1 (e▸ht')),zero_add];exact ih hl.2 ht' λj hj hne=>h j kF hne
theorem ale(a b:Nat->F):∀(V:aA),V.Nodup->(∀s∈V,∀j∈V,a s≠b j/\(s≠j->a s≠a j/\b s≠b j))->∀y:Nat->F,∃x:Nat->F,(∀j,j∉V->x j=0)/\∀s∈V,sum V (λj=>mu (iv (add (a s) (b j))) (x j))=y s
 |[],_,_,_=>⟨λ_=>0,λ_ _=>rfl,λ_ h=>f_⟩
 |t::V,hn,hd,y=>by
  rw[List.nodup_cons]at hn;have hd':∀s∈V,∀j∈V,a s≠b j/\(s≠j->a s≠a j/\b s≠b j):=λs hs j hj=>hd s (by simp[hs]) j kF
  have ne:∀s∈V,t≠s:=λs hs e=>hn.1 (e▸hs)
  let c:Nat->F:=λs=>mu (add (a t) (b t)) (iv (add (a s) (b t)))
  let d:Nat->F:=λs=>mu (add (a s) (b t)) (iv (add (a s) (a t)))
  obtain⟨x',AL,hx⟩:=ale a b V hn.2 hd' (λs=>mu (add (y s) (mu (c s) (y t))) (d s))
  let x1:Nat->F:=λj=>mu (x' j) (mu (add (a t) (b j)) (iv (add (b j) (b t))))
  let xt:F:=mu (add (a t) (b t)) (add (y t) (sum V λj=>mu (iv (add (a t) (b j))) (x1 j)))
  have htt:add (a t) (b t)≠0:=Rn (hd t ax t ax).1;have hsum:∀s,sum V (λj=>mu (iv (add (a s) (b j))) (if j=t then xt else x1 j))=sum V (λj=>mu (iv (add (a s) (b j))) (x1 j)):=λs=>ED λj hj=>by rw[au (λe=>ne j hj e.symm)]
  refine⟨λj=>if j=t then xt else x1 j,λj hj=>?_,λs hs=>?_⟩
  .simp only[dX,not_or]at hj;simp only[au hj.1];show mu (x' j) _=0;rw[AL j hj.2,Ei]
  rw[sum,hsum];simp only[aX];by_cases uw:s=t
  .subst uw;show add (mu (iv (add (a s) (b s))) (mu (add (a s) (b s)) _)) _=_;rw[<-Fg,alb htt,Bv,add_assoc,Dp,add_zero]
  .have hsV:s∈V:=by simpa[uw]using hs
   have ahX:add (a s) (b t)≠0:=Rn (hd s hs t ax).1;have hsa:add (a s) (a t)≠0:=Rn ((hd s hs t ax).2 uw).1
   have e1:mu (iv (add (a s) (b t))) xt=add (mu (c s) (y t)) (sum V λj=>mu (c s) (mu (iv (add (a t) (b j))) (x1 j))):=by rw[aaF,<-Oc];show mu (iv (add (a s) (b t))) (mu (add (a t) (b t)) _)=mu (mu (add (a t) (b t)) (iv (add (a s) (b t)))) _;rw[<-Fg,y_ (iv _) (add (a t) (b t))]
   have e2:add (sum V λj=>mu (c s) (mu (iv (add (a t) (b j))) (x1 j))) (sum V λj=>mu (iv (add (a s) (b j))) (x1 j))=add (y s) (mu (c s) (y t)):=by
    rw[<-sum_add]
    have:∀j∈V,add (mu (c s) (mu (iv (add (a t) (b j))) (x1 j))) (mu (iv (add (a s) (b j))) (x1 j))=mu (mu (add (a s) (a t)) (iv (add (a s) (b t)))) (mu (iv (add (a s) (b j))) (x' j)):=by intro j hj;rw[add_comm];exact key ahX (Rn ((hd j kF t ax).2 (λe=>ne j hj e.symm)).2) (Rn (hd' s hsV j hj).1) (Rn (hd t ax j kF).1) (x' j)
    rw[ED this,aaF,hx s hsV];show mu (mu (add (a s) (a t)) (iv (add (a s) (b t)))) (mu _ (mu (add (a s) (b t)) (iv (add (a s) (a t)))))=_
    have:∀q p p' r r':F,mu p p'=1->mu r r'=1->mu (mu p r') (mu q (mu r p'))=q:=λq p p' r r' hp hr=>by
     calc _=mu (mu p p') (mu (mu r r') q):=by simp only[y_,IG]
      _=q:=by rw[hp,hr,Bv,Bv]
    exact this _ _ _ _ _ (KJ hsa) (KJ ahX)
   rw[e1,add_assoc,e2,KH,add_comm (mu _ _) (mu _ _),Dp,add_zero]
end F
end Go.Proofs.Y
namespace Go.Proofs.Y
open Go.Proofs.Tryz
namespace F
def dot(k:Nat)(r x:Nat->F):F:=sum (List.range k) λj=>mu (r j) (x j)
structure Sq(k:Nat)(px:Nat->F)(M:Nat->Nat->F):Prop where
 unit:∀s,s<k->(px s).val<k->(px s).val=s/\∀j,j<k->M s j=if j=s then 1 else 0
 inv:∀s,s<k->k<=(px s).val->∀j,j<k->M s j=iv (add (px s) (Fin.ofNat 256 j))
 inj:∀s j,s<k->j<k->s≠j->px s≠px j
 small:k<=256
theorem zB{k:Nat}{r x:Nat->F}{s:Nat}(hs:s<k)(h:∀j,j<k->r j=if j=s then 1 else 0):dot k r x=x s:=by
 have:=IJ (l:=List.range k) kS (f:=λj=>mu (r j) (x j)) (t:=s) (by simpa using hs) (λi hi hne=>by simp only[fH]at hi;simp only[h i hi,au hne,Ei])
 rw[dot,this];simp only[h s hs,aX,Bv]
theorem aqk{k:Nat}{px:Nat->F}{M:Nat->Nat->F}(h:Sq k px M){t:Nat}(ht:t<k):∃x:Nat->F,(∀j,t<j->x j=0)/\(∀s,s<t->dot k (M s) x=0)/\dot k (M t) x=1:=by
 let b:Nat->F:=λj=>Fin.ofNat 256 j
 have bv:∀j,j<k->(b j).val=j:=λj hj=>cu (bG hj h.small)
 have key:∀(V:aA),V.Nodup->(∀s∈V,s<k/\k<=(px s).val)->∀y:Nat->F,∃x:Nat->F,(∀j,j∉V->x j=0)/\∀s∈V,sum V (λj=>mu (iv (add (px s) (b j))) (x j))=y s:=λV hn hV y=>
  ale px b V hn (λs hs j hj=>⟨λe=>by have:=bI Fin.val e;rw[bv j (hV j hj).1]at this;have:=(hV s hs).2;have:=(hV j hj).1;omega,λhne=>⟨h.inj s j (hV s hs).1 (hV j hj).1 hne,λe=>hne (by have:=bI Fin.val e;rwa[bv s (hV s hs).1,bv j (hV j hj).1]at this)⟩⟩) y
 have full:∀(p:Nat->Bool)(x:Nat->F)(s:Nat),s<k->k<=(px s).val->(∀j,j∉(List.range k).filter p->x j=0)->dot k (M s) x=sum ((List.range k).filter p) (λj=>mu (iv (add (px s) (b j))) (x j)):=λp x s hs hp hx=>by
  rw[aeL,dot]
  .exact ED λj hj=>by rw[h.inv s hs hp j jH]
  .intro j hj hpj;rw[hx j (by simp[hpj]),F6]
 by_cases htu:(px t).val<k
 ·
  let p:Nat->Bool:=λs=>decide (s<t)&&decide (k<=(px s).val)
  obtain⟨x,AL,hx⟩:=key ((List.range k).filter p) (kS.filter _) (λs hs=>by simp[p]at hs;omega) (λs=>iv (add (px s) (b t)));have hxt:x t=0:=AL t (by simp[p])
  have split:∀s,dot k (M s) (λj=>if j=t then 1 else x j)=add (dot k (M s) x) (M s t):=λs=>by
   have e1:∀j∈List.range k,mu (M s j) (if j=t then 1 else x j)=add (mu (M s j) (x j)) (if j=t then M s t else 0):=λj _=>by
    by_cases hj:j=t
    .subst hj;simp only[aX,hxt,F6,zero_add,aeK]
    .simp only[au hj,add_zero]
   rw[dot,ED e1,sum_add]
   congr 1
   rw[IJ (l:=List.range k) kS (t:=t) nY (λi _ hne=>by simp only[au hne])];simp only[aX]
  refine⟨λj=>if j=t then 1 else x j,λj hj=>?_,λs hs=>?_,?_⟩
  .simp only[au (show j≠t by omega)];exact AL j kY
  .by_cases hsu:(px s).val<k
   .rw[zB ag (h.unit s ag hsu).2];simp only[au (show s≠t by omega)];exact AL s kY
   .have hsV:s∈(List.range k).filter p:=kY;rw[split,full p x s ag ag AL,hx s hsV,h.inv s ag ag t ht];exact Dp _
  .rw[zB ht (h.unit t ht htu).2];simp only[aX]
 .let p:Nat->Bool:=λs=>decide (s<=t)&&decide (k<=(px s).val)
  obtain⟨x,AL,hx⟩:=key ((List.range k).filter p) (kS.filter _) (λs hs=>by simp[p]at hs;omega) (λs=>if s=t then 1 else 0);refine⟨x,λj hj=>AL j kY,λs hs=>?_,?_⟩
  .by_cases hsu:(px s).val<k
   .rw[zB ag (h.unit s ag hsu).2];exact AL s kY
   .rw[full p x s ag ag AL,hx s kY];simp only[au (show s≠t by omega)]
  .rw[full p x t ht ag AL,hx t kY];simp only[aX]
structure Gj(k:Nat)(M:Nat->Nat->F)(t:Nat)(A B:Nat->Nat->F):Prop where
 same:∀x y:Nat->F,(∀i,i<k->dot k (A i) x=dot k (B i) y)↔∀i,i<k->dot k (M i) x=y i
 left:∀i s,i<k->s<t->A i s=if s=i then 1 else 0
 right:∀i s,i<k->t<=s->s<k->B i s=if s=i then 1 else 0
theorem ak8(k:Nat)(M:Nat->Nat->F):Gj k M 0 M (λi j=>if j=i then 1 else 0):=
 ⟨λx y=>forall_congr' λi=>forall_congr' λhi=>by rw[zB (r:=λj=>if j=i then 1 else 0) hi λ_ _=>rfl],
  λ_ _ _ h=>absurd h ag,λ_ _ _ _ _=>rfl⟩
theorem asI{k:Nat}{px:Nat->F}{M A B:Nat->Nat->F}{t:Nat}(h:Sq k px M)(hg:Gj k M t A B)(ht:t<k):A t t≠0:=by
 obtain⟨x,AL,hxs,hxt⟩:=aqk h ht;have:=(hg.same x (λi=>dot k (M i) x)).2 (λ_ _=>rfl) t ht
 have e1:dot k (A t) x=mu (A t t) (x t):=IJ kS nY λi hi hne=>by
  rcases bJ i t with qK|Ws
  .rw[hg.left t i ht qK,au hne,Ei]
  .rw[AL i ag,F6]
 have e2:dot k (B t) (λi=>dot k (M i) x)=1:=by
  have e3:dot k (B t) (λi=>dot k (M i) x)=mu (B t t) (dot k (M t) x):=IJ kS nY λi hi hne=>by
   rcases bJ i t with qK|Ws
   .show mu (B t i) (dot k (M i) x)=0;rw[hxs i qK,F6]
   .rw[hg.right t i ht Ws nZ,au hne,Ei]
  rw[e3,hxt,hg.right t t ht (az _) ht];simp only[aX,aeK]
 rw[e1,e2]at this;intro e;rw[e,Ei]at this;exact alc this.symm
def scaled(c:F)(r:Nat->F):Nat->F:=λj=>mu (r j) c
def added(c:F)(r q:Nat->F):Nat->F:=λj=>add (r j) (mu (q j) c)
theorem IK(k:Nat)(c:F)(r x:Nat->F):dot k (scaled c r) x=mu c (dot k r x):=by rw[dot,dot,<-aaF];exact ED λj _=>by simp only[scaled,y_,IG]
theorem Y7(k:Nat)(c:F)(r q x:Nat->F):dot k (added c r q) x=add (dot k r x) (mu c (dot k q x)):=by
 rw[dot,dot,dot,<-aaF,<-sum_add]
 exact ED λj _=>by rw[added,ala];simp only[y_,IG]
def Nj(A:Nat->Nat->F)(t i:Nat):Nat->F:=if i=t then scaled (iv (A t t)) (A t)else added (A i t) (A i) (scaled (iv (A t t)) (A t))
def Nk(A B:Nat->Nat->F)(t i:Nat):Nat->F:=if i=t then scaled (iv (A t t)) (B t)else added (A i t) (B i) (scaled (iv (A t t)) (B t))
theorem anH{k:Nat}{px:Nat->F}{M A B:Nat->Nat->F}{t:Nat}(h:Sq k px M)(hg:Gj k M t A B)(ht:t<k):Gj k M (t+1) (Nj A t) (Nk A B t):=by
 have hp:=asI h hg ht;refine⟨λx y=>?_,λi s hi hs=>?_,λi s hi hs xU=>?_⟩
 .rw[<-hg.same x y];constructor
  .intro e i hi;have et:=e t ht;simp only[Nj,Nk,aX,IK]at et;have et':=LV (asq hp) et;by_cases F7:i=t
   .subst F7;exact et'
   .have ei:=e i hi;simp only[Nj,Nk,au F7,Y7,IK,et']at ei;have:=bI (add (mu (A i t) (mu (iv (A t t)) (dot k (B t) y)))) ei;rwa[KH,Dp,add_zero,KH,Dp,add_zero]at this
  .intro e i hi;by_cases F7:i=t
   .subst F7;simp only[Nj,Nk,aX,IK,e i hi]
   .simp only[Nj,Nk,au F7,Y7,IK,e i hi,e t ht]
 .have tt:∀s,s<t+1->scaled (iv (A t t)) (A t) s=if s=t then 1 else 0:=λs hs=>by
   by_cases uw:s=t
   .subst uw;simp only[scaled,aX,KJ hp]
   .simp only[scaled,hg.left t s ht ag,au uw,Ei]
  by_cases F7:i=t
  .subst F7;simp only[Nj,aX];exact tt s hs
  .simp only[Nj,au F7,added,tt s hs];by_cases uw:s=t
   .subst uw;simp only[aX,Bv,Dp];rw[au (λe=>F7 e.symm)]
   .simp only[au uw,Ei,add_zero];exact hg.left i s hi ag
 .have tt:∀s,t+1<=s->s<k->scaled (iv (A t t)) (B t) s=0:=λs hs xU=>by
   simp only[scaled,hg.right t s ht ag xU,au (show s≠t by omega),Ei]
  by_cases F7:i=t
  .subst F7;simp only[Nk,aX];rw[tt s hs xU,au ag]
  .simp only[Nk,au F7,added,tt s hs xU,Ei,add_zero];exact hg.right i s hi ag xU
theorem ao2{k:Nat}{M A B:Nat->Nat->F}(hg:Gj k M k A B)(y:Nat->F):∀i,i<k->dot k (M i) (λj=>dot k (B j) y)=y i:=by
 refine(hg.same (λj=>dot k (B j) y) y).1 λi hi=>?_
 rw[zB hi λj hj=>by rw[hg.left i j hi hj]]
end F
end Go.Proofs.Y
namespace Go.Proofs.Y
open Go.Proofs.Tryz
open Go.RowKit Go.Deep
structure C9(S:Nat->Prop)(w w':ah):Prop where
 os:w'.os=w.os
 tape:w'.tape=w.tape
 output:w'.output=w.output
 size:w.heap.size<=w'.heap.size
 block:∀k,k<w.heap.size->¬S k->w'.heap[k]?=w.heap[k]?
theorem C9.refl(S:Nat->Prop)(w:ah):C9 S w w:=⟨rfl,rfl,rfl,az _,λ_ _ _=>rfl⟩
theorem C9.below{S:Nat->Prop}{w w':ah}(h:Below w.heap.size w w'):C9 S w w':=⟨h.os,h.tape,h.output,h.size,λk hk _=>h.block k hk⟩
theorem C9.trans{S S':Nat->Prop}{w w' w'':ah}(h:C9 S w w')(h':C9 S' w' w'')(hs:∀k,k<w.heap.size->S' k->S k):C9 S w w'':=
 ⟨h'.os.trans h.os,h'.tape.trans h.tape,h'.output.trans h.output,bu h.size h'.size,λk hk hn=>(h'.block k (bG hk h.size) λx=>hn (hs k hk x)).trans (h.block k hk hn)⟩
theorem C9.mono{S S':Nat->Prop}{w w':ah}(h:C9 S w w')(hs:∀k,S k->S' k):C9 S' w w':=⟨h.os,h.tape,h.output,h.size,λk hk hn=>h.block k hk λx=>hn (hs k x)⟩
theorem C9.set{S:Nat->Prop}{w w':ah}(h:C9 S w w'){a:Addr}(ha:S a.block\/w.heap.size<=a.block)(v:ai):C9 S w (w'.setCell a v):=
 ⟨h.os,h.tape,h.output,awe,λk hk hn=>(jR w' a k v (by rcases ha with x|x;exact λe=>hn (e▸x);omega)).trans (h.block k hk hn)⟩
theorem C9.alloc{S:Nat->Prop}{w w':ah}(h:C9 S w w')(o:Obj):C9 S w (w'.alloc o):=h.trans (S':=λ_=>False) (.below ((aT _ _).alloc (az _) _)) (λ_ _ x=>x.elim)
theorem C9.drew{S:Nat->Prop}{w w':ah}(h:C9 S w w'):C9 S w w'.drew:=⟨h.os,h.tape,h.output,h.size,h.block⟩
theorem C9.row{S:Nat->Prop}{w w':ah}(h:C9 S w w'){b n:Nat}{t:aF}{f:Nat->ai}(hb:b<w.heap.size)(hn:¬S b)(hr:w.rowIs b t n f):w'.rowIs b t n f:=hr.of_block (h.block b hb hn)
def fv(a:Nat->F)(j:Nat):ai:=.int .u8 ((a j).val:Int)
theorem afY{T:aB}(hT:T.size=256)(h1:∀v∈T,v.oneCell'=true)(w:ah):(storeCells ⟨w.heap.size,0,none⟩ T.toList).run prog (w.alloc (.cells Tryz.zeroCells209 209))=.ok () (w.alloc (.cells T 209)):=by rw[PY (fC _ _) (by rw[Es 0];exact uP 0 0) hT h1,World.setRow_alloc_new]
theorem Y5(b k cap:Nat)(a:Nat->F)(f:F)(w:ah)(hk:k<=128)(hr:w.rowIs b 5 k (fv a))(hb:b<w.heap.size):
  Calls prog 126 #[.slice (some ⟨b,0,none⟩) k cap,.int .u8 (f.val:Int)] w λe w'=>e=.returned (.tuple #[])/\w'.rowIs b 5 k (fv (F.scaled f a))/\C9 (· =b) w w':=by
 have hpr:=PZ f.val f.isLt;have sW:=afY (uP f.val 256) (Js f.val 256);have MH:∀x,x<256->(zX f.val 256)[x]?=some (.int .u8 ((mul x f.val:Nat):Int)):=λx hx=>by rw[CY _ _ _ hx,ay hx]
 have hsz:=uP f.val 256;generalize zX f.val 256=T at hpr sW MH hsz;have hfv:∀j,(F.scaled f a j).val=mul (a j).val f.val:=λ_=>rfl
 generalize Oi:f.val=fn at hpr MH hfv⊢;clear Oi;go_enter func126,ntmps126
 go_wp2_with(first|(go_at_call 118;(with_reducible refine(hpr _).mono ?_);rintro e w1 ⟨rfl,uu⟩;have alI:=sW w1))
 have Nu:C9 (· =b) w (w1.alloc (.cells T 209)):=(C9.below uu).alloc _;have htab:(w1.alloc (.cells T 209)).heap[w1.heap.size]?=some (.cells T 209):=fC _ _;have hbn:b<w1.heap.size:=bG hb uu.size;have xK:(w1.alloc (.cells T 209)).rowIs b 5 k (fv a):=(hr.of_block (uu.block b hb)).alloc _;have hwn:=uu.size;generalize w1.heap.size=N at*;generalize w1.alloc (.cells T 209)=w2 at Nu htab xK⊢;clear sW alI uu hpr
 go_loopw [11] (λvj wr=>∃c:Nat,c<=k/\vj=.int .i64 (c:Int)/\wr.rowIs b 5 k (λj=>if j<c then fv (F.scaled f a) j else fv a j)/\C9 (· =b) w wr/\wr.heap[N]?=some (.cells T 209)) (λj _=>k-(intOf j).toNat)
 case atStart=>exact⟨0,ag,rfl,xK.congr (λj _=>iq),Nu,htab⟩
 case round=>
  clear xK Nu htab;obtain⟨c,hc,rfl,hR,hO,hT⟩:=hrel;by_cases qK:c<k
  .have Am:(c:Int)<(k:Int):=ag
   have c1:wr.cell? ⟨b,c,none⟩=some (.int .u8 ((a c).val:Int)):=by have:=hR.cell qK;exact ayq
   have fz:=hR.frozen c;have hax:=(a c).isLt;have c2:wr.cell? ⟨N,(a c).val,none⟩=some (.int .u8 ((mul (a c).val fn:Nat):Int)):=by rw[cell_of _ hT,MH _ hax]
   have Fz:=hR.set c (.int .u8 ((mul (a c).val fn:Nat):Int))
   have WN:(wr.setCell ⟨b,c,none⟩ (.int .u8 ((mul (a c).val fn:Nat):Int))).rowIs b 5 k (λj=>if j<c+1 then fv (F.scaled f a) j else fv a j):=Fz.congr λj _=>by
    by_cases e:j=c
    .subst e;rw[ay rfl,ay ag,fv,hfv]
    .rw[au e];by_cases h:j<c
     .rw[ay h,ay ag]
     .rw[au h,au ag]
   have Ot:=hO.set (a:=⟨b,c,none⟩) (.inl rfl) (.int .u8 ((mul (a c).val fn:Nat):Int));have WV:=(jR wr ⟨b,c,none⟩ N (.int .u8 ((mul (a c).val fn:Nat):Int)) (by show N≠b;omega)).trans hT;clear Fz MH hfv;generalize mul (a c).val fn=q at*;generalize(a c).val=x at*;go_wp2
   go_roundw
   case rel=>exact⟨c+1,ag,bU,WN,Ot,WV⟩
   case measure=>simp[intOf];omega
  .obtain rfl:c=k:=ag;have Hg:¬((c:Int)<(c:Int)):=ag;go_wp2;go_end0;exact⟨rfl,hR.congr λj hj=>awC,hO⟩
theorem aeM(a q:Nat->F):F.added 0 a q=a:=by
 funext j
 rw[F.added,F.F6,F.add_zero]
theorem PX(b b2 k cap L9:Nat)(a a2:Nat->F)(f:F)(w:ah)(hk:k<=128)(hr:w.rowIs b 5 k (fv a))(Hl:w.rowIs b2 5 k (fv a2))(hb:b<w.heap.size)(tX:b2<w.heap.size)(hne:b2≠b):
  Calls prog 91 #[.slice (some ⟨b,0,none⟩) k cap,.int .u8 (f.val:Int),.slice (some ⟨b2,0,none⟩) k L9] w λe w'=>e=.returned (.tuple #[])/\w'.rowIs b 5 k (fv (F.added f a a2))/\C9 (· =b) w w':=by
 by_cases hz:f=0
 .subst hz;rw[aeM,show((0:F).val:Int)=0 from rfl];go_enter func91,ntmps91;go_wp2;refine iD (results_none rfl _ _ _) rfl ?_;exact⟨rfl,hr,C9.refl _ _⟩
 have hpr:=PZ f.val f.isLt;have sW:=afY (uP f.val 256) (Js f.val 256);have MH:∀x,x<256->(zX f.val 256)[x]?=some (.int .u8 ((mul x f.val:Nat):Int)):=λx hx=>by rw[CY _ _ _ hx,ay hx]
 have hsz:=uP f.val 256;generalize zX f.val 256=T at hpr sW MH hsz;have hfv:∀j,(F.added f a a2 j).val=(a j).val^^^mul (a2 j).val f.val:=λ_=>rfl
 have hz':((f.val:Int)==0)=false:=by simp only[oJ,ne_eq];intro e;exact hz (fV (by show f.val=0;omega))
 have hml:∀j,mul (a2 j).val f.val<256:=λj=>mul_lt (a2 j).isLt
 generalize Oi:f.val=fn at hpr MH hfv hz' hml⊢;clear Oi;go_enter func91,ntmps91
 go_wp2_with(first|(go_at_call 118;(with_reducible refine(hpr _).mono ?_);rintro e w1 ⟨rfl,uu⟩;have alI:=sW w1))
 have Nu:C9 (· =b) w (w1.alloc (.cells T 209)):=(C9.below uu).alloc _;have htab:(w1.alloc (.cells T 209)).heap[w1.heap.size]?=some (.cells T 209):=fC _ _;have hbn:b<w1.heap.size:=bG hb uu.size;have au5:b2<w1.heap.size:=bG tX uu.size;have xK:(w1.alloc (.cells T 209)).rowIs b 5 k (fv a):=(hr.of_block (uu.block b hb)).alloc _;have hwn:=uu.size;generalize w1.heap.size=N at*;generalize w1.alloc (.cells T 209)=w2 at Nu htab xK⊢;clear sW alI uu hpr
 go_loopw [15] (λvj wr=>∃c:Nat,c<=k/\vj=.int .i64 (c:Int)/\wr.rowIs b 5 k (λj=>if j<c then fv (F.added f a a2) j else fv a j)/\C9 (· =b) w wr/\wr.heap[N]?=some (.cells T 209)) (λj _=>k-(intOf j).toNat)
 case atStart=>exact⟨0,ag,rfl,xK.congr (λj _=>iq),Nu,htab⟩
 case round=>
  clear xK Nu htab;obtain⟨c,hc,rfl,hR,hO,hT⟩:=hrel;by_cases qK:c<k
  .have Am:(c:Int)<(k:Int):=ag
   have c1:wr.cell? ⟨b,c,none⟩=some (.int .u8 ((a c).val:Int)):=by have:=hR.cell qK;exact ayq
   have fz:=hR.frozen c;have hax:=(a c).isLt;have atV:=(a2 c).isLt;have c3:wr.cell? ⟨b2,c,none⟩=some (.int .u8 ((a2 c).val:Int)):=(hO.row tX hne Hl).cell qK;have c2:wr.cell? ⟨N,(a2 c).val,none⟩=some (.int .u8 ((mul (a2 c).val fn:Nat):Int)):=by rw[cell_of _ hT,MH _ atV]
   have atW:=hml c;have hx:=u8_xor_nat _ _ hax atW;have Fz:=hR.set c (.int .u8 (((a c).val^^^mul (a2 c).val fn:Nat):Int))
   have WN:(wr.setCell ⟨b,c,none⟩ (.int .u8 (((a c).val^^^mul (a2 c).val fn:Nat):Int))).rowIs b 5 k (λj=>if j<c+1 then fv (F.added f a a2) j else fv a j):=Fz.congr λj _=>by
    by_cases e:j=c
    .subst e;rw[ay rfl,ay ag,fv,hfv]
    .rw[au e];by_cases h:j<c
     .rw[ay h,ay ag]
     .rw[au h,au ag]
   have Ot:=hO.set (a:=⟨b,c,none⟩) (.inl rfl) (.int .u8 (((a c).val^^^mul (a2 c).val fn:Nat):Int));have WV:=(jR wr ⟨b,c,none⟩ N (.int .u8 (((a c).val^^^mul (a2 c).val fn:Nat):Int)) (by show N≠b;omega)).trans hT;clear Fz MH hfv hml;generalize(a c).val^^^mul (a2 c).val fn=r at*;generalize mul (a2 c).val fn=q at*;generalize(a c).val=x at*;generalize(a2 c).val=x2 at*;go_wp2;go_region;have hR4:=WN.drew;have hO4:=Ot.drew;have hT4:(wr.setCell ⟨b,c,none⟩ (.int .u8 (r:Int))).drew.heap[N]?=some (.cells T 209):=WV;generalize(wr.setCell ⟨b,c,none⟩ (.int .u8 (r:Int))).drew=wz at hR4 hO4 hT4⊢;clear WN Ot WV;go_wp2
   go_roundw
   case rel=>exact⟨c+1,ag,bU,hR4,hO4,hT4⟩
   case measure=>simp[intOf];omega
  .obtain rfl:c=k:=ag;have Hg:¬((c:Int)<(c:Int)):=ag;go_wp2;go_end0;exact⟨rfl,hR.congr λj hj=>awC,hO⟩
