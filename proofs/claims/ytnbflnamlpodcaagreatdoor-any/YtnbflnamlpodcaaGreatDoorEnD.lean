import Derived.Test.YtnbflnamlpodcaaGreatDoorWrE
import Derived.Laws.AppendOwnNone
set_option maxHeartbeats 4000000
set_option maxRecDepth 100000
namespace Go.Proofs.Y
open Go.RowKit Go.Deep Go.Hp
theorem Tryz.JM:(Tryz.prog.info? 44).map (λi=>(i.zero,i.size,i.bytes))=some (some (.agg #[.string ⟨#[]⟩,.slice none 0 0]),2,40):=ag
def E5(e:qQ):List Value:=[qV e.k,e.d]
def vg(n:Nat)(f:Nat->qQ):List Value:=(List.range n).flatMap λi=>E5 (f i)
theorem zB(n:Nat)(f:Nat->qQ):vg (n+1) f=vg n f++E5 (f n):=by unfold vg;rw[dm,l9];simp
theorem Eh(n:Nat)(f:Nat->qQ):(vg n f).length=n*2:=by
 induction n with
 |zero=>rfl
 |succ n ih=>rw[zB,aQ,ih];simp[E5];omega
theorem Ho(n:Nat)(f:Nat->qQ)(i p:Nat)(hi:i<n)(hp:p<2):(vg n f)[i*2+p]?=(E5 (f i))[p]?:=by
 induction n with
 |zero=>omega
 |succ n ih=>
  rw[zB];by_cases e:i=n
  .subst e;rw[iO (by rw[Eh];omega),Eh,show i*2+p-i*2=p by omega]
  .rw[eY (by rw[Eh];omega),ih ae]
theorem Ns{n:Nat}{f g:Nat->qQ}(h:∀i,i<n->f i=g i):vg n f=vg n g:=by
 induction n with
 |zero=>rfl
 |succ n ih=>rw[zB,zB,ih λi hi=>h i ae,h n ae]
theorem Tz(e:qQ):∀u∈E5 e,u.oneCell'=true:=by intro u hu;simp[E5]at hu;rcases hu with rfl|rfl<;>rfl
structure BC(w:World)(bo:Option Addr)(n:Nat)(f:Nat->qQ):Prop where
 here:0<n->∃b o,bo=some ⟨b,o,none⟩/\b<w.heap.size/\∀i,i<n->w.cell? ⟨b,o+i*2,none⟩=some (qV (f i).k)/\w.cell? ⟨b,o+i*2+1,none⟩=some (f i).d
theorem BC.below{w w':World}{bo:Option Addr}{n B:Nat}{f:Nat->qQ}(h:BC w bo n f)(hb:Below B w w')(hB:w.heap.size<=B):BC w' bo n f:=⟨λhn=>by obtain⟨b,o,h1,h2,h3⟩:=h.here hn;exact⟨b,o,h1,aN h2 hb.size,λi hi=>⟨(hb.cell (p:=⟨b,_,none⟩) (aN h2 hB)).trans (h3 i hi).1,(hb.cell (p:=⟨b,_,none⟩) (aN h2 hB)).trans (h3 i hi).2⟩⟩⟩
theorem rX{w w':World}{B e s n:Nat}{v:Value}{xs:List Value}(h:w.ownsRow B e s v n xs)(hk:∀g,v.ownBlock=some g->w'.heap[g]?=w.heap[g]?):w'.ownsRow B e s v n xs:=by
 refine⟨h.1,?_⟩;rcases h.2 with h1|⟨g,cap,cur,h1,h2,h3,h4⟩
 .exact .inl h1
 .exact .inr ⟨g,cap,cur,h1,h2,by rw[hk g (by rw[h1];rfl)];exact h3,h4⟩
theorem CJ{w:World}{B B' t t' s s' n n':Nat}{v v':Value}{xs xs':List Value}(h:w.ownsRow B t s v n xs)(h':w.ownsRow B' t' s' v' n' xs')(ht:t≠t'){b:Nat}(hb:v.ownBlock=some b):v'.ownBlock≠some b:=λhb'=>by obtain⟨c1,f1,e1⟩:=Lib.ownsRow_kind h b hb;obtain⟨c2,f2,e2⟩:=Lib.ownsRow_kind h' b hb';rw[e1]at e2;cases e2;exact ht rfl
theorem aeG(w:World)(n B:Nat)(hB:B<=w.heap.size)(hn:n<=1048576):(w.alloc (.cells (madeCells #[.string ⟨#[]⟩,.slice none 0 0] (n*2)) 44)).ownsRow B 44 2 (.slice (some ⟨w.heap.size,0,none⟩) 0 n) 0 []:=
 ⟨rfl,.inr ⟨w.heap.size,n,madeCells #[.string ⟨#[]⟩,.slice none 0 0] (n*2),rfl,hB,dM _ _,ae,bH,gK _ _,rfl⟩⟩
theorem cell_two_new(w:World)(x y:Value)(t:TypeId):∀j u,[x,y][j]?=some u->(w.alloc (.cells #[x,y] t)).cell? ((⟨w.heap.size,0,none⟩:Addr).add j)=some u:=by
 intro j u hj
 match j,hj with
 |0,hj=>simp at hj;subst hj;simp[Addr.add]
 |1,hj=>simp at hj;subst hj;simp[Addr.add]
theorem I8{w w':World}{h n m:Nat}{fh out:Nat->qQ}{v v':Value}(hown:w.ownsRow (h+1) 44 2 v' m (vg m out))(H:w.ownsRow (h+1) 97 3 v n (F9 n fh))(hfr:∀b,b<w.heap.size->b≠h->some b≠v.ownBlock->w'.heap[b]?=w.heap[b]?):w'.ownsRow (h+1) 44 2 v' m (vg m out):=
 rX hown λg hg=>hfr g (hown.lt g hg).2 (by have:=(hown.lt g hg).1;omega) (λe=>CJ hown H au hg e.symm)
theorem F_(w:World)(e:qQ):(w.alloc (.cells #[.string ⟨e.k.toArray⟩,.slice e.a e.l e.c] 44)).cell? ⟨w.heap.size,0,none⟩=some (.string ⟨e.k.toArray⟩)/\(w.alloc (.cells #[.string ⟨e.k.toArray⟩,.slice e.a e.l e.c] 44)).cell? ⟨w.heap.size,1,none⟩=some (.slice e.a e.l e.c):=by constructor<;>simp
theorem Zj(n:Nat)(hn:n<=1048576)(w:World):(Instr.makeSlice 26 (.int .i64 0) (.int .i64 (n:Int))).run Tryz.prog w=.ok (.slice (some ⟨w.heap.size,0,none⟩) 0 n) (w.alloc (.cells (madeCells #[.string ⟨#[]⟩,.slice none 0 0] (n*2)) 44)):=by obtain⟨i0,hi0,hz0,hz1,hz2⟩:=bg Tryz.JM;have:=iZ (P:=Tryz.prog) w 26 44 i0 _ Tryz.underlying26 hi0 hz0 .i64 .i64 0 n ae ae fO ae;exact aqo
theorem aa4{n:Nat}{f g:Nat->qQ}(h:qK n f g){i j:Nat}(hi:i<n)(hj:j<n)(hij:i≠j)(e:(g i).k=(g j).k):¬(∀i j,i<j->j<n->(f i).k≠(f j).k):=by
 obtain⟨i',j',h1,h2,h3,h4,h5⟩:=h.two hi hj hij;rw[h4,h5]at e;intro hd;rcases aT i' j' with h|h
 .exact hd i' j' h h2 e
 .exact hd j' i' ae h1 e.symm
theorem aeH{n:Nat}{f:Nat->qQ}(h:∀i,i+1<n->Hp.lt (f i).k (f (i+1)).k=true):∀d i,i+d+1<n->Hp.lt (f i).k (f (i+d+1)).k=true
 |0,i,hi=>h i hi
 |d+1,i,hi=>Hp.lt_trans (aeH h d i ae) (h (i+d+1) ae)
theorem WN{n:Nat}{f g:Nat->qQ}(h:qK n f g)(hs:∀i,i+1<n->Hp.lt (g i).k (g (i+1)).k=true):∀i j,i<j->j<n->(f i).k≠(f j).k:=λi j hij hj e=>by
 refine aa4 h.symm (i:=i) (j:=j) ae hj ae e λi j hij hj e=>?_
 have:=aeH hs (j-i-1) i ae;rw[show i+(j-i-1)+1=j by omega,e,Hp.lt_irrefl]at this;cases this
def Fits(k:List UInt8):Prop:=1<=k.length/\k.length<=255
def tX(n:Nat)(f:Nat->qQ):Prop:=(∀i,i<n->Fits (f i).k)/\∀i j,i<j->j<n->(f i).k≠(f j).k
def ajA(n:Nat)(f:Nat->qQ)(w:World)(r:Ending)(w':World):Prop:=
 Below w.heap.size w w'/\((¬tX n f/\r=.returned (.tuple #[.slice none 0 0,.bool false]))\/
  (tX n f/\∃f' v,r=.returned (.tuple #[v,.bool true])/\qK n f f'/\(∀i,i+1<n->Hp.lt (f' i).k (f' (i+1)).k=true)/\w'.ownsRow w.heap.size 44 2 v n (vg n f')))
theorem WO{h i m k:Nat}{f out fh f2:Nat->qQ}{v2 vs v':Value}{w W4 wa w5:World}(hk:i-m=k+1)(hp:Hp fh (k+1))(hR':qK i f (λx=>if x<m+1 then(if x=m then fh 0 else out x)else(if x-(m+1)=0 then fh k else fh (x-(m+1)))))
  (hsrt:∀x,x+1<m->Hp.lt (out x).k (out (x+1)).k=true) (hle:∀x,x<k+1->0<m->Hp.le (out (m-1)).k (fh x).k) (hne:0<m->(out (m-1)).k≠(fh 0).k) (hR2:qK k (JO k fh) f2) (hp2:Hp f2 k) (H4:HA (h+1) h k f2 v2 W4) (b4:Below h w W4) (s4:h+1<=W4.heap.size) (o4:W4.ownsRow (h+1) 44 2 vs m (vg m out))
  (ha:Below W4.heap.size W4 wa) (hg:wa.grownBy w5 vs.ownBlock) (ho:w5.ownsRow (h+1) 44 2 v' (m+1) (vg m out++E5 (fh 0))):
  m+1<=i/\HA (h+1) h (i-(m+1)) f2 v2 w5/\Hp f2 (i-(m+1))/\qK i f (λx=>if x<m+1 then(λx=>if x=m then fh 0 else out x) x else f2 (x-(m+1)))/\(∀x,x+1<m+1->Hp.lt ((λx=>if x=m then fh 0 else out x) x).k ((λx=>if x=m then fh 0 else out x) (x+1)).k=true)/\(∀x,x<i-(m+1)->0<m+1->Hp.le ((λx=>if x=m then fh 0 else out x) (m+1-1)).k (f2 x).k)/\w5.ownsRow (h+1) 44 2 v' (m+1) (vg (m+1) (λx=>if x=m then fh 0 else out x))/\Below h w w5/\h+1<=w5.heap.size:=by
 have ek:i-(m+1)=k:=ae;have hsa:=ha.size;have kb:∀b,b<W4.heap.size->some b≠vs.ownBlock->w5.heap[b]?=W4.heap[b]?:=λb hb hne=>(hg.block b ae hne).trans (ha.block b hb)
 have hbw:Below (h+1) W4 w5:=((ha.mono s4).grown hg ae (λx hx=>(o4.lt x hx).1));have hs5:=hbw.size;rw[ek];refine⟨ae,⟨H4.var.of_block (kb h ae (λe=>ap6)),rX H4.own λg hg'=>kb g (H4.own.lt g hg').2 (λe=>CJ H4.own o4 au hg' e.symm),H4.low⟩,hp2,?_,?_,?_,?_,b4.trans (hbw.mono ae),ae⟩
 .exact arM
 .intro x hx;dsimp only;rw[ah (show¬x=m by omega)];by_cases e:x+1=m
  .rw[aj e];have:=hle 0 ae ae;have h3:=Hp.lt_of_le_ne this (hne ae);rw[show m-1=x by omega]at h3;exact h3
  .rw[ah e];exact hsrt x ae
 .intro x hx _;dsimp only;rw[f_,aj rfl];obtain⟨j,hj,ej⟩:=hR2.from hx;rw[ej];unfold JO;split
  .exact UX hp k ae
  .exact UX hp j ae
 .rw[zB,aj rfl,Ns (g:=out) λj hj=>fM];exact ho
theorem Zk(n cap:Nat)(bo:Option Addr)(f:Nat->qQ)(w:World)(hn:n<=1048576)(hk:∀i,i<n->(f i).k.length<=9223372036854775807)(hB:BC w bo n f):
  Calls Tryz.prog 16 #[.slice bo n cap] w λr w'=>ajA n f w r w':=by
 obtain⟨i0,hi0,hz0,hz1,hz2⟩:=bg Tryz.JM
 have v0:(w.alloc (.cells #[.slice none 0 0] 68)).rowIs w.heap.size 68 1 (λ_=>.slice none 0 0):=
  World.rowIs_alloc w #[.slice none 0 0] 68 (λ_=>.slice none 0 0) (λi hi=>by obtain rfl:i=0:=iF;rfl)
 have b0:Below w.heap.size w (w.alloc (.cells #[.slice none 0 0] 68)):=(aA _ _).alloc (ak _) _;have s0:(w.alloc (.cells #[.slice none 0 0] 68)).heap.size=w.heap.size+1:=ai;have H0:HA (w.heap.size+1) w.heap.size 0 f (.slice none 0 0) (w.alloc (.cells #[.slice none 0 0] 68)):=⟨v0,bT _ _ _ _,ae⟩;go_enter Tryz.func16,Tryz.ntmps16;go_wp2;generalize w.alloc (.cells #[.slice none 0 0] 68)=w0 at*;generalize hh:w.heap.size=h at*
 go_loopw [6,11] (λ_ vi wr=>∃(i:Nat)(f':Nat->qQ)(v:Value),i<=n/\vi=.int .i64 ((i:Nat):Int)/\HA (h+1) h i f' v wr/\qK i f f'/\Hp f' i/\Below h w wr/\h+1<=wr.heap.size/\∀j,j<i->Fits (f j).k) (λ_ vi _=>n-(intOf vi).toNat)
 case atStart=>exact⟨0,f,_,ae,rfl,H0,qK.refl _ _,λc _ hc=>absurd hc ae,b0,ae,λj hj=>absurd hj ae⟩
 case round=>
  clear v0 b0 s0 H0;obtain⟨i,f',v,hi,rfl,H,hR,hp,hb,hs,hf⟩:=hrel;by_cases hlt:i<n
  .have hlt':(i:Int)<(n:Int):=ae;obtain⟨b,o,rfl,hbl,hcell⟩:=(hB.below hb ae).here ae;obtain⟨c0,c1⟩:=hcell i hlt;clear hcell
   have nV:(wr.alloc (.cells #[qV (f i).k,(f i).d] 44)).rowIs wr.heap.size 44 2 (λj=>if j=0 then qV (f i).k else(f i).d):=
    World.rowIs_alloc wr #[qV (f i).k,(f i).d] 44 _ (λi hi=>by have:i=0\/i=1:=iF;rcases this with rfl|rfl<;>rfl)
   have H1:HA (h+1) h i f' v (wr.alloc (.cells #[qV (f i).k,(f i).d] 44)):=⟨H.var.alloc _,H.own.alloc _,H.low⟩;have b1:=hb.alloc ae (.cells #[qV (f i).k,(f i).d] 44);have s1:h+1<=(wr.alloc (.cells #[qV (f i).k,(f i).d] 44)).heap.size:=az;have e0:=nV.cell (i:=0) ae;have e1:=nV.cell (i:=1) ae;simp only[aF,jF,aU]at e0 e1;by_cases hfit:Fits (f i).k
   .have kn:=UY (f i).k hfit;have kp:=push_any (h+1) h i f' v (f i) _ H1 s1 ae hp;have hR2:qK (i+1) f (λx=>if x=i then f i else f' x):=hR.snoc (λ_ _=>rfl) (λx hx=>fM) (by rw[aj rfl]);clear H1 H hb nV;generalize hw1:wr.alloc (.cells #[qV (f i).k,(f i).d] 44)=w1 at*;simp only[qV,qQ.d]at*
    go_wp2_with(first
     |(go_at_call 22;(with_reducible refine(kn _).mono ?_);rintro r w' ⟨rfl,hw'⟩;obtain rfl:=hw'.symm)
     |(go_at_call 23;(with_reducible refine kp.mono ?_);rintro r w2 ⟨rfl,f2,v2,H2,VU,hp2,hb2,hs2⟩))
    go_roundw
    case rel=>exact⟨i+1,f2,v2,ae,aV,H2,hR2.trans VU,hp2,b1.trans hb2,hs2,λj hj=>by
     by_cases e:j=i
     .rw[e];exact hfit
     .exact hf j ae⟩
    case measure=>simp[intOf];omega
   .have kn:=WQ (f i).k hfit (hk i hlt);have bad:¬tX n f:=λhN=>hfit (hN.1 i hlt)
    clear H1 H hb nV;generalize hw1:wr.alloc (.cells #[qV (f i).k,(f i).d] 44)=w1 at*;simp only[qV,qQ.d]at c0 c1 e0 e1 hw1
    go_wp2_with(first
     |(go_at_call 22;(with_reducible refine(kn _).mono ?_);rintro r w' ⟨rfl,hw'⟩;obtain rfl:=hw'.symm))
    go_ret2;exact⟨by rw[hh];exact b1,.inl ⟨bad,rfl⟩⟩
  .obtain rfl:i=n:=ae;have hnl:¬((i:Int)<(i:Int)):=ae;have mk:=Zj i hn wr;have Ar:=aeG wr i (h+1) hs hn;have H1:HA (h+1) h i f' v (wr.alloc (.cells (madeCells #[.string ⟨#[]⟩,.slice none 0 0] (i*2)) 44)):=⟨H.var.alloc _,H.own.alloc _,H.low⟩;have b1:=hb.alloc ae (.cells (madeCells #[.string ⟨#[]⟩,.slice none 0 0] (i*2)) 44);have s1:h+1<=(wr.alloc (.cells (madeCells #[.string ⟨#[]⟩,.slice none 0 0] (i*2)) 44)).heap.size:=az;clear H hb hs;go_wp2;generalize wr.alloc (.cells (madeCells #[.string ⟨#[]⟩,.slice none 0 0] (i*2)) 44)=w1 at*
   go_loopw [7,8] (λvs _ wq=>∃(m:Nat)(out fh:Nat->qQ)(v:Value),m<=i/\HA (h+1) h (i-m) fh v wq/\Hp fh (i-m)/\qK i f (λx=>if x<m then out x else fh (x-m))/\(∀x,x+1<m->Hp.lt (out x).k (out (x+1)).k=true)/\(∀x,x<i-m->0<m->Hp.le (out (m-1)).k (fh x).k)/\wq.ownsRow (h+1) 44 2 vs m (vg m out)/\Below h w wq/\h+1<=wq.heap.size) (λvs _ _=>match vs with| .slice _ m _=>i-m|_=>0)
   case atStart=>exact⟨0,f',f',v,ae,H1,hp,hR.congr λx _=>apv,λx hx=>absurd hx ae,λx _ h0=>absurd h0 ae,Ar,b1,s1⟩
   case round=>
    clear H1 Ar b1 s1 mk hp hR;obtain⟨m,out,fh,v,hm,H,hp,hR,hsrt,hle,hown,hb,hs⟩:=hrel;have kl:=len_any (h+1) h (i-m) fh v _ H
    obtain⟨bs,cs,rfl⟩:∃bs cs,u7=.slice bs m cs:=by exact arT
    by_cases hmn:m<i
    .obtain⟨k,hk'⟩:∃k,i-m=k+1:=⟨i-m-1,ae⟩;rw[hk']at H hp kl hle;have hgt:(0:Int)<(k:Int)+1:=ae;have kp:=pop_any (h+1) h k fh v _ H hs ae hp;have hR':=hR.trans ((qK.popped (k:=k) (o:=out) (g:=fh) (show m+(k+1)=i by omega)));have hp0:=hp;rcases eG m with h0|h0
     .have hd:decide ((0:Int)<(m:Int))=false:=by rw[h0];rfl
      have hd2:decide (0<m)=false:=by rw[h0];rfl
      replace h0:m<1:=ae
      go_wp2_with(first
       |(go_at_call 24;(with_reducible refine kl.mono ?_);rintro r w' ⟨rfl,hw'⟩;obtain rfl:=hw'.symm)
       |(go_at_call 25;(with_reducible refine kp.mono ?_);rintro r w2 ⟨rfl,f2,v2,H2,hR2,hp2,hb2,hs2,hfr⟩;have o2:=I8 hown H.own hfr;simp only[qV,qQ.d];obtain⟨nb,nc⟩:=F_ w2 (fh 0);have o3:=o2.alloc (.cells #[.string ⟨(fh 0).k.toArray⟩,.slice (fh 0).a (fh 0).l (fh 0).c] 44);have H3:HA (h+1) h k f2 v2 (w2.alloc (.cells #[.string ⟨(fh 0).k.toArray⟩,.slice (fh 0).a (fh 0).l (fh 0).c] 44)):=⟨H2.var.alloc _,H2.own.alloc _,H2.low⟩;have b3:=(hb.trans hb2).alloc ae (.cells #[.string ⟨(fh 0).k.toArray⟩,.slice (fh 0).a (fh 0).l (fh 0).c] 44);have s3:h+1<=(w2.alloc (.cells #[.string ⟨(fh 0).k.toArray⟩,.slice (fh 0).a (fh 0).l (fh 0).c] 44)).heap.size:=az;clear kp kl H hown hp hfr H2 o2))
      go_wp2
      go_quiet (fail)
      generalize hW:w2.alloc (.cells #[.string ⟨(fh 0).k.toArray⟩,.slice (fh 0).a (fh 0).l (fh 0).c] 44)=W at*;replace nb:(W.drewN nq).cell? ⟨w2.heap.size,0,none⟩=some (.string ⟨(fh 0).k.toArray⟩):=nb;replace nc:(W.drewN nq).cell? ⟨w2.heap.size,1,none⟩=some (.slice (fh 0).a (fh 0).l (fh 0).c):=nc;have H4:=H3.drew nq;have b4:=below_drewN b3 nq;replace o3:(W.drewN nq).ownsRow (h+1) 44 2 (.slice bs m cs) m (vg m out):=o3;replace s3:h+1<=(W.drewN nq).heap.size:=s3;generalize W.drewN nq=W4 at*;clear hW H3 b3;clear W
      go_wp2_with(at_builtin;refine dF _ rfl _ _ 26 rfl (h+1) 44 i0 (.agg #[.string ⟨#[]⟩,.slice none 0 0]) 2 40 Tryz.underlying26 hi0 hz0 hz1 hz2 rfl au _ _ _ rfl (o3.alloc _) ⟨W4.heap.size,0,none⟩ 1 1 (E5 (fh 0)) rfl rfl (cell_two_new _ _ _ _) (Tz _) bH ae az ?_;intro v' w5 hown5 hgrow _;obtain⟨gq,cq,rfl,_,_⟩:=hown5.form ae)
      go_roundw
      case rel=>exact⟨m+1,λx=>if x=m then fh 0 else out x,f2,v2,WO hk' hp0 hR' hsrt hle (λh=>absurd h ae) hR2 hp2 H4 b4 s3 o3 ((aA _ _).alloc (ak _) _) hgrow hown5⟩
      case measure=>simp;omega
     .have hd:(0:Int)<(m:Int):=ae;have hi1:0<=(m:Int)-1:=ae;have hi2:(m:Int)-1<(m:Int):=ae
      obtain⟨gs,rfl,hgs⟩:∃gs,bs=some ⟨gs,0,none⟩/\h+1<=gs:=by
       rcases hown.2 with⟨_,h1⟩|⟨g,cap,_,h1,h2,_⟩
       .omega
       .cases h1;exact⟨_,rfl,h2⟩
      by_cases hne:(out (m-1)).k=(fh 0).k
      .have hbad:¬tX i f:=λhN=>aa4 hR' (i:=m-1) (j:=m) ae ae ae (by rw[aj ae,ah ae,aj ae,aj rfl];exact hne) hN.2
       go_wp2_with(first
        |(go_at_call 24;(with_reducible refine kl.mono ?_);rintro r w' ⟨rfl,hw'⟩;obtain rfl:=hw'.symm)
        |(go_at_call 25;(with_reducible refine kp.mono ?_);rintro r w2 ⟨rfl,f2,v2,H2,hR2,hp2,hb2,hs2,hfr⟩;have o2:=I8 hown H.own hfr;simp only[qV,qQ.d];obtain⟨nb,nc⟩:=F_ w2 (fh 0);have o3:=o2.alloc (.cells #[.string ⟨(fh 0).k.toArray⟩,.slice (fh 0).a (fh 0).l (fh 0).c] 44);have H3:HA (h+1) h k f2 v2 (w2.alloc (.cells #[.string ⟨(fh 0).k.toArray⟩,.slice (fh 0).a (fh 0).l (fh 0).c] 44)):=⟨H2.var.alloc _,H2.own.alloc _,H2.low⟩;have b3:=(hb.trans hb2).alloc ae (.cells #[.string ⟨(fh 0).k.toArray⟩,.slice (fh 0).a (fh 0).l (fh 0).c] 44);have s3:h+1<=(w2.alloc (.cells #[.string ⟨(fh 0).k.toArray⟩,.slice (fh 0).a (fh 0).l (fh 0).c] 44)).heap.size:=az;have l0:=o3.cellAt ((m-1)*2) ae;rw[show(vg m out)[(m-1)*2]?=some (.string ⟨(out (m-1)).k.toArray⟩)from(Ho m out (m-1) 0 ae ae)]at l0;clear kp kl H hown hp hfr H2 o2))
       simp only[hne]at l0;go_wp2
       go_quiet (fail)
       go_wp2;go_ret2;exact⟨by rw[hh];exact below_drewN b3 _,.inl ⟨hbad,rfl⟩⟩
      .have hne':((out (m-1)).k==(fh 0).k)=false:=mZ.2 hne
       go_wp2_with(first
        |(go_at_call 24;(with_reducible refine kl.mono ?_);rintro r w' ⟨rfl,hw'⟩;obtain rfl:=hw'.symm)
        |(go_at_call 25;(with_reducible refine kp.mono ?_);rintro r w2 ⟨rfl,f2,v2,H2,hR2,hp2,hb2,hs2,hfr⟩;have o2:=I8 hown H.own hfr;simp only[qV,qQ.d];obtain⟨nb,nc⟩:=F_ w2 (fh 0);have o3:=o2.alloc (.cells #[.string ⟨(fh 0).k.toArray⟩,.slice (fh 0).a (fh 0).l (fh 0).c] 44);have H3:HA (h+1) h k f2 v2 (w2.alloc (.cells #[.string ⟨(fh 0).k.toArray⟩,.slice (fh 0).a (fh 0).l (fh 0).c] 44)):=⟨H2.var.alloc _,H2.own.alloc _,H2.low⟩;have b3:=(hb.trans hb2).alloc ae (.cells #[.string ⟨(fh 0).k.toArray⟩,.slice (fh 0).a (fh 0).l (fh 0).c] 44);have s3:h+1<=(w2.alloc (.cells #[.string ⟨(fh 0).k.toArray⟩,.slice (fh 0).a (fh 0).l (fh 0).c] 44)).heap.size:=az;have l0:=o3.cellAt ((m-1)*2) ae;rw[show(vg m out)[(m-1)*2]?=some (.string ⟨(out (m-1)).k.toArray⟩)from(Ho m out (m-1) 0 ae ae)]at l0;clear kp kl H hown hp hfr H2 o2))
       go_wp2
       go_quiet (fail)
       generalize hW:w2.alloc (.cells #[.string ⟨(fh 0).k.toArray⟩,.slice (fh 0).a (fh 0).l (fh 0).c] 44)=W at*;replace nb:(W.drewN nq).cell? ⟨w2.heap.size,0,none⟩=some (.string ⟨(fh 0).k.toArray⟩):=nb;replace nc:(W.drewN nq).cell? ⟨w2.heap.size,1,none⟩=some (.slice (fh 0).a (fh 0).l (fh 0).c):=nc;have H4:=H3.drew nq;have b4:=below_drewN b3 nq;replace o3:(W.drewN nq).ownsRow (h+1) 44 2 (.slice (some ⟨gs,0,none⟩) m cs) m (vg m out):=o3;replace s3:h+1<=(W.drewN nq).heap.size:=s3;generalize W.drewN nq=W4 at*;clear hW H3 b3 l0;clear W
       go_wp2_with(at_builtin;refine dF _ rfl _ _ 26 rfl (h+1) 44 i0 (.agg #[.string ⟨#[]⟩,.slice none 0 0]) 2 40 Tryz.underlying26 hi0 hz0 hz1 hz2 rfl au _ _ _ rfl (o3.alloc _) ⟨W4.heap.size,0,none⟩ 1 1 (E5 (fh 0)) rfl rfl (cell_two_new _ _ _ _) (Tz _) bH ae az ?_;intro v' w5 hown5 hgrow _;obtain⟨gq,cq,rfl,_,_⟩:=hown5.form ae)
       go_roundw
       case rel=>exact⟨m+1,λx=>if x=m then fh 0 else out x,f2,v2,WO hk' hp0 hR' hsrt hle (λ_=>hne) hR2 hp2 H4 b4 s3 o3 ((aA _ _).alloc (ak _) _) hgrow hown5⟩
       case measure=>simp;omega
    .obtain rfl:m=i:=ae;rw[jY]at kl;rw[show((0:Nat):Int)=0 from rfl]at kl;have hfin:qK m f out:=hR.congr λx hx=>by rw[aj hx]
     have hN:tX m f:=⟨hf,WN hfin hsrt⟩;clear hp hle hR H
     go_wp2_with(first|(go_at_call 24;(with_reducible refine kl.mono ?_);rintro r w' ⟨rfl,hw'⟩;obtain rfl:=hw'.symm))
     go_ret2;exact⟨aoC,.inr ⟨hN,out,_,rfl,hfin,hsrt,apw⟩⟩
end Go.Proofs.Y
namespace Go.Proofs.Y
open Go.RowKit Go.Deep
def OwnB(B:Nat)(w:World)(v:Value)(l:List UInt8):Prop:=w.ownsRow B 5 1 v l.length (rF l)
theorem OwnB.of{B n:Nat}{w:World}{v:Value}{l:List UInt8}(h:w.ownsRow B 5 1 v n (rF l)):OwnB B w v l:=by have:n=l.length:=ap2;subst this;exact h
theorem OwnB.alloc{B:Nat}{w:World}{v:Value}{l:List UInt8}(h:OwnB B w v l)(o:Obj):OwnB B (w.alloc o) v l:=World.ownsRow.alloc h o
def UZ:Obj->Bool
 | .cells _ t _=>t != 5
 |_=>true
structure xA(w w':World):Prop where
 size:w.heap.size<=w'.heap.size
 same:∀(k:Nat)(o:Obj),w.heap[k]?=some o->UZ o=true->w'.heap[k]?=some o
theorem xA.refl(w:World):xA w w:=⟨ak _,λ_ _ h _=>h⟩
theorem xA.trans{a b c:World}(h:xA a b)(k:xA b c):xA a c:=⟨aK h.size k.size,λi o hh ht=>k.same i o (h.same i o hh ht) ht⟩
theorem xA.alloc{a w:World}(h:xA a w)(o:Obj):xA a (w.alloc o):=h.trans ⟨ai,λk o' hh _=>by have hk:k<w.heap.size:=(a_.1 hh).1;exact(bK w o k hk).trans hh⟩
theorem OwnB.keeps{B:Nat}{w w':World}{v:Value}{l:List UInt8}(h:OwnB B w v l)(hg:w.grownBy w' v.ownBlock):xA w w':=⟨hg.size,λk o hh ht=>by
 have hk:k<w.heap.size:=(a_.1 hh).1;rw[hg.block k hk ?_]
 .exact hh
 .intro e;rcases h.2 with⟨rfl,_⟩|⟨g,cap,cur,rfl,_,hb,_⟩
  .cases e
  .cases e;rw[hb]at hh;cases hh;simp[UZ]at ht⟩
theorem qf.keep{w w':World}{b:Nat}{cs:List Value}{t:TypeId}(h:qf w b cs t)(hk:xA w w')(ht:t≠5):qf w' b cs t:=hk.same b _ h (by simpa[UZ]using ht)
def Gives(B:Nat)(w:World)(l:List UInt8)(r:Ending)(w':World):Prop:=∃v,r=.returned v/\OwnB B w' v l/\Below B w w'/\xA w w'
theorem yA(X N:Int)(x n:Nat)(hX:X=x)(hx:x<2^64)(hN:N=n)(hn:n<=8)(B:Nat)(v0:Value)(l:List UInt8)(hl:l.length<2^40)(w:World)(h0:OwnB B w v0 l)(hB:B<=w.heap.size):
  Calls Tryz.prog 45 #[v0,.int .u64 X,.int .i64 N] w λr w'=>Gives B w (l++leB n x) r w':=by
 subst hX hN;obtain⟨i0,hi0,hz0,hz1,hz2⟩:=bg Au;go_enter Tryz.func45,Tryz.ntmps45;go_wp2
 go_loopw [0,1,8] (λv vv vi wr=>∃c:Nat,c<=n/\vv=.int .u64 ((x/256^c:Nat):Int)/\vi=.int .i64 (c:Int)/\wr.ownsRow B 5 1 v (l.length+c) (rF (l++leB c x))/\Below B w wr/\xA w wr) (λ_ _ i _=>n-(intOf i).toNat)
 case atStart=>exact⟨0,ae,ai,rfl,by have:=h0;unfold OwnB at this;simpa[leB]using this,aA _ _,xA.refl _⟩
 case round=>
  obtain⟨c,hc,rfl,rfl,hown,hbel,hkt⟩:=hrel;clear h0;have hsz:=hbel.size;by_cases hlt:c<n
  .obtain⟨y,ey⟩:∃y,x/256^c=y:=⟨_,rfl⟩;have hy:y<2^64:=by rw[<-ey];exact anJ (Nat.div_le_self _ _) hx
   have EQ:Hid (rF (l++leB c x)++[.int .u8 ((y%256:Nat):Int)]=rF (l++leB (c+1) x)):=aeI _ (y%256) ae _ (by rw[WR,ey,eP]);have DV:Hid (y/256=x/256^(c+1)):=by rw[<-ey,aoY,jE];exact rfl
   rw[ey];clear ey hx
   go_wp2_with(at_builtin;refine dF _ rfl _ _ 34 rfl B 5 i0 (.int .u8 0) 1 1 Tryz.underlying34 hi0 hz0 hz1 hz2 rfl au _ _ _ rfl (hown.alloc _) ⟨wr.heap.size,0,none⟩ 1 1 [.int .u8 ((y%256:Nat):Int)] rfl rfl (cell_one_new _ _ _) (ahw _) bH ae az ?_;intro v2 w2 hown2 hgrow _)
   have hb2:=(hbel.alloc ae (.cells #[Value.int .u8 ((y%256:Nat):Int)] 5)).grown hgrow az (λk hk=>(hown.lt k hk).1);have hk2:xA w w2:=(hkt.alloc _).trans (OwnB.keeps (OwnB.of (hown.alloc _)) hgrow);clear hgrow;go_wp2
   go_roundw
   case rel=>exact⟨c+1,ae,by rw[<-DV.out];go_num,aV,by rw[<-EQ.out];exact hown2,hb2,hk2⟩
   case measure=>simp[intOf];omega
  .have e:c=n:=ae;subst e;go_wp2;go_ret;exact⟨_,rfl,OwnB.of hown,hbel,hkt⟩
def Tab(w:World):Prop:=2<w.heap.size/\∀i,i<16->w.cell? ⟨2,i,none⟩=some (.int .u64 ((Dj.getD i 0:Nat):Int))
theorem Tab.below{w w':World}{B:Nat}(h:Tab w)(hb:Below B w w')(hB:2<B):Tab w':=
 ⟨aN h.1 hb.size,λi hi=>(hb.cell (p:=⟨2,i,none⟩) hB).trans (h.2 i hi)⟩
theorem Tab.heap{w w':World}(h:Tab w)(hh:w'.heap=w.heap):Tab w':=by refine⟨by rw[hh];exact h.1,λi hi=>?_⟩;have:=h.2 i hi;unfold World.cell? at*;rw[hh];exact this
theorem TD(bb bo cap:Nat)(l:List UInt8)(hl:l.length<2^60)(w:World)(hb:Ag w bb bo l)(ht:Tab w):
  Calls Tryz.prog 76 #[.slice (some ⟨bb,bo,none⟩) l.length cap] w λe w'=>e=.returned (.int .u64 (sumOf l:Nat))/\w'=w:=
 ahx bb bo l.length cap (l.map UInt8.toNat) ai (λi _=>by rw[WT];exact FM l i) ae w (λi hi=>by rw[WT];exact hb i hi) ht.2
theorem PS(B:Nat)(v0:Value)(l:List UInt8)(hl:l.length<2^40)(w:World)(h0:OwnB B w v0 l)(hB:B<=w.heap.size)(bb bo cap:Nat)(p:List UInt8)(hp:p.length<2^60)(hb:Ag w bb bo p)(ht:Tab w):
  Calls Tryz.prog 46 #[v0,.slice (some ⟨bb,bo,none⟩) p.length cap] w λr w'=>Gives B w (l++leB 8 (sumOf p)) r w':=by
 have K1:=TD bb bo cap p hp w hb ht;have hs:=Jr p;obtain⟨s,es⟩:∃s,sumOf p=s:=⟨_,rfl⟩;rw[es]at K1 hs⊢;have K2:=yA (s:Int) 8 s 8 rfl hs rfl ae B v0 l hl w h0 hB;clear h0 hb ht es;go_enter Tryz.func46,Tryz.ntmps46
 go_wp2_with(first|(go_at_call 76;refine K1.mono ?_;rintro r w' ⟨rfl,hw'⟩;obtain rfl:=hw'.symm)|(go_at_call 45;refine K2.mono ?_;rintro r w' ⟨v,rfl,h1,h2,h3⟩))
 go_ret;exact⟨_,rfl,h1,h2,h3⟩
theorem Nu(B:Nat)(v0:Value)(l:List UInt8)(hl:l.length<2^40)(hp:0<l.length)(w:World)(h0:OwnB B w v0 l)(hB:B<=w.heap.size)(ht:Tab w):
  Calls Tryz.prog 46 #[v0,v0] w λr w'=>Gives B w (rV l) r w':=by
 obtain⟨g,c,e,_,_,_,_,hb⟩:=yU h0 hp;have K:=PS B v0 l hl w h0 hB g 0 c l ae hb ht;rw[<-e]at K;exact K
theorem Zl(a b:List UInt8):rF (a++b)=rF a++rF b:=dY
theorem OwnB.lt{B:Nat}{w:World}{v:Value}{l:List UInt8}(h:OwnB B w v l)(k:Nat)(hk:v.ownBlock=some k):B<=k:=(iH h k hk).1
theorem OwnB.more{B n m:Nat}{w:World}{v:Value}{l k:List UInt8}{xs:List Value}(h:w.ownsRow B 5 1 v (n+m) (rF l++xs))(e:xs=rF k):OwnB B w v (l++k):=by subst e;rw[<-Zl]at h;exact OwnB.of h
theorem OwnB.grown{B:Nat}{w w':World}{v:Value}{l:List UInt8}(h:OwnB B w v l)(hg:w.grownBy w' v.ownBlock)(hB:B<=w.heap.size):Below B w w':=
 (aA B w).grown hg hB (λk hk=>h.lt k hk)
theorem Hq(ns:List (List UInt8))(zs:List Int)(i:Nat):(uX ns zs i).length=Aw ns i:=Ei ns zs i
theorem U0(vN vS:Value)(ns:List (List UInt8))(zs:List Int)(hok:PU ns zs)(hn:ns.length<=1000)(ht:tot zs<=65536)(w:World)(h1:Lies w vN (uV ns))(h2:Lies w vS (Dh zs))(hT:Tab w):
  Calls Tryz.prog 28 #[vN,vS] w λr w'=>∃v,r=.returned v/\OwnB w.heap.size w' v (rV (uX ns zs ns.length))/\Below w.heap.size w w':=by
 have K0:=Nv vN ns hn hok.2.1 w h1;obtain⟨i0,hi0,hz0,hz1,hz2⟩:=bg Au;obtain⟨m,em⟩:∃m,FC ns=m:=⟨_,rfl⟩;rw[em]at K0
 have hm:m<=1000000:=by exact arw
 obtain⟨w0,hmk,ho0,hg0⟩:=run_make_own (P:=Tryz.prog) w w.heap.size 34 5 i0 (.int .u8 0) 1 Tryz.underlying34 hi0 hz0 hz1 .i64 .i64 (m+8) fO bH (ak _);rw[show((m+8:Nat):Int)=(m:Int)+8 by omega]at hmk;have hb0:Below w.heap.size w w0:=(aA _ _).grown hg0 (ak _) (λk hk=>by cases hk);have hO0:OwnB w.heap.size w0 (.slice (some ⟨w.heap.size,0,none⟩) 0 (m+8)) []:=OwnB.of ho0;have K1:=yA (ns.length:Int) 4 ns.length 4 rfl ae rfl ae w.heap.size _ [] ai w0 hO0 hb0.size;obtain⟨ba,cap,rfl,hcap,hc⟩:=id h1;obtain⟨bz,anm,rfl,hcapz,hcz⟩:=id h2;rw[uK]at hcap K0⊢;rw[Ci]at hcapz⊢;have hlen:Hid (ns.length=zs.length):=hok.1;have HK:Hid (PU ns zs):=hok;clear ho0 hg0 em h1 h2 hok;go_enter Tryz.func28,Tryz.ntmps28
 go_wp2_with(first|(go_at_call 44;refine K0.mono ?_;rintro r w' ⟨rfl,hw'⟩;obtain rfl:=hw'.symm)|(go_at_call 45;refine K1.mono ?_;rintro r w1 ⟨v1,rfl,PV,hb1,hk1⟩))
 have hB1:Below w.heap.size w w1:=hb0.trans hb1;clear K0 K1 hmk hO0 hb0 hb1;rw[bf]at PV
 go_loopw [5,6,7,19] (λv _ _ vi wr=>∃c:Nat,c<=ns.length/\vi=.int .i64 (c:Int)/\OwnB w.heap.size wr v (uX ns zs c)/\Below w.heap.size w wr) (λ_ _ _ i _=>ns.length-(intOf i).toNat)
 case atStart=>exact⟨0,ae,rfl,by simpa[uX]using PV,hB1⟩
 case round=>
  obtain⟨c,hcl,rfl,hown,hbel⟩:=hrel;clear PV hB1;have hsz:=hbel.size;by_cases hlt:c<ns.length
  .obtain⟨b,off,rfl,hcell⟩:=hc c _ (DR hlt);obtain⟨b2,ajB,rfl,hcell2⟩:=hcz c _ (U1 pF)
   have hl1:(uX ns zs c).length<=1000000:=by have:=zC ns HK.out.2.1 c ae;rw[Hq];omega
   have hsc:=(HK.out.2.1 c hlt).1;have hzc:=HK.out.2.2 c pF
   have hz3:(zs.getD c 0).toNat<=65536:=by have:=PW zs (i:=c+1) pF;rw[Ej]at this;omega
   have MS:Hid _:=PX ns zs c;obtain⟨s,es⟩:∃s,ns.getD c []=s:=⟨_,rfl⟩;obtain⟨z,ez⟩:∃z:Nat,zs.getD c 0=(z:Int):=⟨(zs.getD c 0).toNat,ae⟩;obtain⟨M,eM⟩:∃M,uX ns zs c=M:=⟨_,rfl⟩;rw[es]at hcell hsc MS;rw[ez]at hcell2 hz3 MS;rw[eM]at hl1 MS hown;rw[gy]at hz3 MS;have hcw:=(hbel.cell (p:=⟨b,off+c,none⟩) (cell_lt hcell)).trans hcell;have hcz2:∀w',Below w.heap.size wr w'->w'.cell? ⟨b2,ajB+c,none⟩=some (.int .i64 (z:Int)):=λw' hb=>(hb.cell (p:=⟨b2,ajB+c,none⟩) (cell_lt hcell2)).trans ((hbel.cell (p:=⟨b2,ajB+c,none⟩) (cell_lt hcell2)).trans hcell2)
   have hbs:=OM s;have K1:=yA (s.length:Int) 2 s.length 2 rfl ae rfl ae w.heap.size _ M ae wr hown hbel.size;have hlb:(c:Int)<(zs.length:Int):=pF;clear es ez eM hcell hcell2 hzc hc hcz ht
   go_wp2_with(first
    |(go_at_call 45;refine K1.mono ?_;clear K1;rintro r w2 ⟨v2,rfl,hO2,hb2,hk2⟩;have hs2:=hb2.size)
    |(at_builtin;refine Lib.wpList_append_own_string _ rfl _ _ 34 9 rfl w.heap.size 5 i0 Tryz.underlying34 Tryz.underlying9 hi0 hz0 hz1 hz2 _ _ _ rfl hO2 ⟨s.toArray⟩ rfl (by rw[hbs];simp[ry];unfold maxLen;omega) (by rw[hbs];simp[ry];omega) ae ?_;intro v3 w3 hown3 hgrow3 _;have hO3:OwnB w.heap.size w3 v3 (M++leB 2 s.length++s):=OwnB.more hown3 (U2 s);have hb3:Below w.heap.size wr w3:=hb2.trans (hO2.grown hgrow3 ae);have hc3:=hcz2 _ hb3;have hs3:=hb3.size;have K2:=yA (z:Int) 4 z 4 rfl ae rfl ae w.heap.size _ (M++leB 2 s.length++s) (by simp[ry];omega) w3 hO3 ae;clear hown3 hgrow3 hO3)
    |(go_at_call 45;refine K2.mono ?_;clear K2;rintro r w4 ⟨v4,rfl,hO4,hb4,hk4⟩))
   go_roundw
   case rel=>exact⟨c+1,ae,aV,by rw[MS.out];exact hO4,hbel.trans (hb3.trans hb4)⟩
   case measure=>simp[intOf];omega
  .obtain rfl:c=ns.length:=ae
   have hl1:(uX ns zs ns.length).length<=1000000:=by have:=zC ns HK.out.2.1 ns.length ae;rw[Hq];omega
   have hl0:0<(uX ns zs ns.length).length:=by rw[Hq];unfold Aw;omega
   have K3:=Nu w.heap.size _ (uX ns zs ns.length) ae hl0 wr hown hbel.size (hT.below hbel hT.1);clear hc hcz hl1 hl0
   go_wp2_with(first|(go_at_call 46;refine K3.mono ?_;rintro r w2 ⟨v2,rfl,hO2,hb2,hk2⟩))
   go_ret;exact⟨_,rfl,hO2,hbel.trans hb2⟩
end Go.Proofs.Y
namespace Go.Proofs.Y
open Go.RowKit Go.Deep Go.Hp
theorem Tryz.ajC:(Tryz.prog.info? 9).map (λi=>(i.zero,i.size,i.bytes))=some (some (.string ⟨#[]⟩),1,16):=ag
theorem Tryz.ajD:(Tryz.prog.info? 3).map (λi=>(i.zero,i.size,i.bytes))=some (some (.int .i64 0),1,8):=ag
def qA(n:Nat)(f:Nat->qQ):List (List UInt8):=(List.range n).map λi=>(f i).k
def qC(n:Nat)(f:Nat->qQ):List Int:=(List.range n).map λi=>((f i).l:Int)
theorem uu(n:Nat)(f:Nat->qQ):(qA n f).length=n:=by simp[qA]
theorem wP(n:Nat)(f:Nat->qQ):(qC n f).length=n:=by simp[qC]
theorem WU(n:Nat)(f:Nat->qQ):uV (qA (n+1) f)=uV (qA n f)++[.string ⟨(f n).k.toArray⟩]:=by simp[uV,qA,dm]
theorem WV(n:Nat)(f:Nat->qQ):Dh (qC (n+1) f)=Dh (qC n f)++[.int .i64 ((f n).l:Int)]:=by simp[Dh,qC,dm]
theorem aeJ(x:ByteArray):∀u∈[Value.string x],u.oneCell'=true:=by intro u hu;simp at hu;subst hu;rfl
theorem aeK(x:Int):∀u∈[Value.int .i64 x],u.oneCell'=true:=by intro u hu;simp at hu;subst hu;rfl
theorem zM(w:World)(x:Value)(t:TypeId):∀j u,[x][j]?=some u->(w.alloc (.cells #[x] t)).cell? ((⟨w.heap.size,0,none⟩:Addr).add j)=some u:=by
 intro j u hj
 match j,hj with
 |0,hj=>simp at hj;subst hj;simp[Addr.add]
def aeL(n:Nat)(f:Nat->qQ)(w:World)(r:Ending)(w':World):Prop:=Below w.heap.size w w'/\∃vn vs,r=.returned (.tuple #[vn,vs])/\w'.ownsRow w.heap.size 9 1 vn n (uV (qA n f))/\w'.ownsRow w.heap.size 3 1 vs n (Dh (qC n f))
theorem PY{w wa w1:World}{B t t' s s' n n':Nat}{v v':Value}{xs xs':List Value}(h:w.ownsRow B t s v n xs)(h':w.ownsRow B t' s' v' n' xs')(ht:t≠t')(ha:Below w.heap.size w wa)(hg:wa.grownBy w1 v.ownBlock):w1.ownsRow B t' s' v' n' xs':=
 rX h' λg hg'=>(hg.block g (aN (h'.lt g hg').2 ha.size) (λe=>CJ h h' ht e.symm hg')).trans (ha.block g (h'.lt g hg').2)
theorem LK{w wa w1:World}{B h0 t s n:Nat}{v:Value}{xs:List Value}(h:w.ownsRow B t s v n xs)(hB:B<=w.heap.size)(ha:Below w.heap.size w wa)(hg:wa.grownBy w1 v.ownBlock)(_:h0<=B):Below B w w1:=
 (ha.mono hB).grown hg (aK hB ha.size) (λx hx=>(h.lt x hx).1)
theorem WW(n cap:Nat)(bo:Option Addr)(f:Nat->qQ)(w:World)(hn:n<=1048576)(hB:BC w bo n f):
  Calls Tryz.prog 26 #[.slice bo n cap] w λr w'=>aeL n f w r w':=by
 obtain⟨i0,hi0,hz0,hz1,hz2⟩:=bg Tryz.ajC;obtain⟨i1,hi1,hy0,hy1,hy2⟩:=bg Tryz.ajD;have p0:w.ownsRow w.heap.size 9 1 (.slice none 0 0) 0 (uV (qA 0 f)):=bT _ _ _ _;have q0:w.ownsRow w.heap.size 3 1 (.slice none 0 0) 0 (Dh (qC 0 f)):=bT _ _ _ _;go_enter Tryz.func26,Tryz.ntmps26;go_wp2;generalize hh:w.heap.size=h at*
 go_loopw [2,3,8] (λva vb vi wr=>∃(i:Nat),i<=n/\vi=.int .i64 ((i:Nat):Int)/\wr.ownsRow h 9 1 va i (uV (qA i f))/\wr.ownsRow h 3 1 vb i (Dh (qC i f))/\Below h w wr/\h<=wr.heap.size) (λ_ _ vi _=>n-(intOf vi).toNat)
 case atStart=>exact⟨0,ae,rfl,p0,q0,aA _ _,ae⟩
 case round=>
  clear p0 q0;obtain⟨i,hi,rfl,hp,hq,hb,hs⟩:=hrel;by_cases hlt:i<n
  .have hlt':(i:Int)<(n:Int):=ae;obtain⟨b,o,rfl,hbl,hcell⟩:=(hB.below hb ae).here ae;obtain⟨c0,c1⟩:=hcell i hlt;clear hcell;obtain⟨e0,e1⟩:=F_ wr (f i);have hp1:=hp.alloc (.cells #[.string ⟨(f i).k.toArray⟩,.slice (f i).a (f i).l (f i).c] 44);have hq1:=hq.alloc (.cells #[.string ⟨(f i).k.toArray⟩,.slice (f i).a (f i).l (f i).c] 44);have hb1:=hb.alloc ae (.cells #[.string ⟨(f i).k.toArray⟩,.slice (f i).a (f i).l (f i).c] 44);have hs1:h<=(wr.alloc (.cells #[.string ⟨(f i).k.toArray⟩,.slice (f i).a (f i).l (f i).c] 44)).heap.size:=az
   have nb:(wr.alloc (.cells #[.string ⟨(f i).k.toArray⟩,.slice (f i).a (f i).l (f i).c] 44)).ownsRow h 44 2 (.slice (some ⟨wr.heap.size,0,none⟩) 1 1) 1 (E5 (f i)):=
    ⟨rfl,.inr ⟨wr.heap.size,1,#[.string ⟨(f i).k.toArray⟩,.slice (f i).a (f i).l (f i).c],rfl,hs,dM _ _,ae,bH,rfl,rfl⟩⟩
   simp only[qV,qQ.d]at c0 c1;clear hp hq hb;generalize hw1:wr.alloc (.cells #[.string ⟨(f i).k.toArray⟩,.slice (f i).a (f i).l (f i).c] 44)=w1 at*
   go_wp2_with(first
    |(at_builtin;refine dF _ rfl _ _ 53 rfl h 9 i0 (.string ⟨#[]⟩) 1 16 Tryz.underlying53 hi0 hz0 hz1 hz2 rfl au _ _ _ rfl (hp1.alloc _) ⟨w1.heap.size,0,none⟩ 1 1 [.string ⟨(f i).k.toArray⟩] rfl rfl (zM _ _ _) (aeJ _) bH ae az ?_;intro v2 w2 hp2 hgrow _;have hq2:=PY hp1 hq1 au ((aA w1.heap.size w1).alloc (ak _) _) hgrow;have nb2:=PY hp1 nb au ((aA w1.heap.size w1).alloc (ak _) _) hgrow;have hb2:=hb1.trans (LK hp1 hs1 ((aA w1.heap.size w1).alloc (ak _) _) hgrow (ak _));have hs2:h<=w2.heap.size:=hh▸hb2.size;have e1':w2.cell? ⟨wr.heap.size,1,none⟩=some (.slice (f i).a (f i).l (f i).c):=nb2.cellAt 1 ae;clear hgrow hp1 hq1 nb hb1 e0 e1 c0 c1)
    |(at_builtin;refine dF _ rfl _ _ 22 rfl h 3 i1 (.int .i64 0) 1 8 Tryz.underlying22 hi1 hy0 hy1 hy2 rfl au _ _ _ rfl (hq2.alloc _) ⟨w2.heap.size,0,none⟩ 1 1 [.int .i64 ((f i).l:Int)] rfl rfl (zM _ _ _) (aeK _) bH ae az ?_;intro v3 w3 hq3 hgrow _;have hp3:=PY hq2 hp2 au ((aA w2.heap.size w2).alloc (ak _) _) hgrow;have hb3:=hb2.trans (LK hq2 hs2 ((aA w2.heap.size w2).alloc (ak _) _) hgrow (ak _));clear hgrow hq2 hp2 hb2 e1'))
   go_roundw
   case rel=>exact⟨i+1,ae,aV,by rw[WU];exact hp3,by rw[WV];exact hq3,hb3,hh▸hb3.size⟩
   case measure=>simp[intOf];omega
  .obtain rfl:i=n:=ae;have hnl:¬((i:Int)<(i:Int)):=ae;go_wp2;go_ret2;exact⟨aoC,_,_,rfl,by rw[hh];exact hp,by rw[hh];exact hq⟩
theorem ab8(b o j:Nat):(⟨b,o,none⟩:Addr).add j=⟨b,o+j,none⟩:=by
 simp only[Addr.add];split
 .rename_i h;subst h;rfl
 .rfl
def xE(w:World)(e:qQ)(d:List UInt8):Prop:=d.length=e.l/\((e.a=none/\e.l=0/\e.c=0)\/∃ad:Addr,e.a=some ad/\∀j u,(rF d)[j]?=some u->w.cell? (ad.add j)=some u)
theorem xE.below{w w':World}{e:qQ}{d:List UInt8}{B:Nat}(h:xE w e d)(hb:Below B w w')(hB:w.heap.size<=B):xE w' e d:=by
 refine⟨h.1,?_⟩;rcases h.2 with h2|⟨ad,h2,h4⟩
 .exact .inl h2
 .exact .inr ⟨ad,h2,λj u hj=>(hb.cell (p:=ad.add j) (aN (cell_lt (h4 j u hj)) hB)).trans (h4 j u hj)⟩
def qW(D:Nat->List UInt8):Nat->List UInt8
 |0=>[]
 |n+1=>qW D n++D n
theorem aeM(l:List UInt8):∀u∈rF l,u.oneCell'=true:=by intro u hu;simp[rF]at hu;obtain⟨_,_,rfl⟩:=hu;rfl
theorem aeN(D:Nat->List UInt8){i n:Nat}(h:i<=n):(qW D i).length<=(qW D n).length:=by
 induction n with
 |zero=>obtain rfl:i=0:=by omega
        exact ak _
 |succ n ih=>
  by_cases e:i=n+1
  .rw[e];exact ak _
  .have:=ih ae;simp only[qW,aQ];omega
theorem aeO(n cap:Nat)(bo:Option Addr)(f:Nat->qQ)(D:Nat->List UInt8)(w:World)(hn:n<=1048576)(hB:BC w bo n f)(hD:∀i,i<n->xE w (f i) (D i))(ht:(qW D n).length<=1048576):
  Calls Tryz.prog 30 #[.slice bo n cap] w λr w'=>Below w.heap.size w w'/\∃v,r=.returned v/\OwnB w.heap.size w' v (qW D n):=by
 obtain⟨i0,hi0,hz0,hz1,hz2⟩:=bg Au;have p0:w.ownsRow w.heap.size 5 1 (.slice none 0 0) (qW D 0).length (rF (qW D 0)):=bT _ _ _ _;go_enter Tryz.func30,Tryz.ntmps30;go_wp2;generalize hh:w.heap.size=h at*
 go_loopw [3,8] (λva vi wr=>∃(i:Nat),i<=n/\vi=.int .i64 ((i:Nat):Int)/\wr.ownsRow h 5 1 va (qW D i).length (rF (qW D i))/\Below h w wr/\h<=wr.heap.size) (λ_ vi _=>n-(intOf vi).toNat)
 case atStart=>exact⟨0,ae,rfl,p0,aA _ _,ae⟩
 case round=>
  clear p0;obtain⟨i,hi,rfl,hp,hb,hs⟩:=hrel;by_cases hlt:i<n
  .have hlt':(i:Int)<(n:Int):=ae;obtain⟨b,o,rfl,hbl,hcell⟩:=(hB.below hb ae).here ae;obtain⟨c0,c1⟩:=hcell i hlt;have hd:=(hD i hlt).below hb ae
   have hlen:(qW D i).length+(D i).length<=1048576:=by have:=aeN D (i:=i+1) (n:=n) ae;simp only[qW,aQ]at this;omega
   clear hcell;obtain⟨e0,e1⟩:=F_ wr (f i);have hp1:=hp.alloc (.cells #[.string ⟨(f i).k.toArray⟩,.slice (f i).a (f i).l (f i).c] 44);have hb1:=hb.alloc ae (.cells #[.string ⟨(f i).k.toArray⟩,.slice (f i).a (f i).l (f i).c] 44);have hd1:=hd.below ((aA wr.heap.size wr).alloc (ak _) (.cells #[.string ⟨(f i).k.toArray⟩,.slice (f i).a (f i).l (f i).c] 44)) (ak _);have hs1:h<=(wr.alloc (.cells #[.string ⟨(f i).k.toArray⟩,.slice (f i).a (f i).l (f i).c] 44)).heap.size:=az;simp only[qV,qQ.d]at c0 c1;clear hp hb hd;rcases hd1 with⟨hdl,hd1⟩;rcases hd1 with⟨ea,el,ec⟩|⟨ad,ea,hcd⟩
   .have hnil:D i=[]:=kD.1 ae;rw[ea,el,ec]at hp1 hb1 hs1 e0 e1 c1;clear hdl;clear ea el ec
    go_wp2_with(at_builtin;go_loud (refine wpList_append_own_none rfl _ _ 34 rfl h 5 i0 1 Tryz.underlying34 hi0 _ _ _ rfl hp1 rfl ?_))
    go_roundw
    case rel=>exact⟨i+1,ae,aV,by simp only[qW,hnil,dC];exact hp1,hb1,hs1⟩
    case measure=>simp[intOf];omega
   .rw[ea]at hp1 hb1 hs1 e0 e1 c1 hcd;clear ea;generalize hw1:wr.alloc (.cells #[.string ⟨(f i).k.toArray⟩,.slice (some ad) (f i).l (f i).c] 44)=w1 at*
    go_wp2_with(at_builtin;go_loud (refine dF _ rfl _ _ 34 rfl h 5 i0 (.int .u8 0) 1 1 Tryz.underlying34 hi0 hz0 hz1 hz2 rfl au _ _ _ rfl hp1 ad (f i).l (f i).c (rF (D i)) rfl (by simp[rF];omega) (λj u hj=>hcd j u hj) (aeM _) bH ae hs1 ?_;intro v2 w2 hp2 hgrow _))
    have hb2:=hb1.trans (LK hp1 hs1 (aA _ _) hgrow (ak _));clear hgrow hp1 hb1
    go_roundw
    case rel=>exact⟨i+1,ae,aV,by rw[show(qW D (i+1)).length=(qW D i).length+(f i).l by simp[qW,hdl],show rF (qW D (i+1))=rF (qW D i)++rF (D i)by simp[qW,rF]];exact hp2,hb2,hh▸hb2.size⟩
    case measure=>simp[intOf];omega
  .obtain rfl:i=n:=ae;have hnl:¬((i:Int)<(i:Int)):=ae;go_wp2;go_ret;exact⟨hb,_,rfl,hp⟩
