import Derived.Test.YtnbflnamlpodcaaGreatDoorWrE
import Derived.Laws.AppendOwnNone
set_option maxHeartbeats 4000000
set_option maxRecDepth 100000
namespace Go.Proofs.Y
open Go.Proofs.Tryz
open Go.RowKit Go.Deep Go.Hp
theorem Tryz.Ob:(prog.info? 44).map (λi=>(i.zero,i.size,i.bytes))=some (some (.agg #[.string ⟨#[]⟩,.slice none 0 0]),2,40):=ag
def Ii(e:qY):List Value:=[ry e.k,e.d]
def wW(n:Nat)(f:Nat->qY):List Value:=(List.range n).flatMap λi=>Ii (f i)
theorem Bg(n:Nat)(f:Nat->qY):wW (n+1) f=wW n f++Ii (f n):=by unfold wW;rw[dC,mG];simp
theorem GY(n:Nat)(f:Nat->qY):(wW n f).length=n*2:=by
 induction n with
 |zero=>rfl
 |succ n ih=>rw[Bg,aS,ih];simp[Ii];omega
theorem J8(n:Nat)(f:Nat->qY)(i p:Nat)(hi:i<n)(hp:p<2):(wW n f)[i*2+p]?=(Ii (f i))[p]?:=by
 induction n with
 |zero=>omega
 |succ n ih=>
  rw[Bg];by_cases e:i=n
  .subst e;rw[iW (by rw[GY];omega),GY,show i*2+p-i*2=p by omega]
  .rw[fF (by rw[GY];omega),ih ae]
theorem QP{n:Nat}{f g:Nat->qY}(h:∀i,i<n->f i=g i):wW n f=wW n g:=by
 induction n with
 |zero=>rfl
 |succ n ih=>rw[Bg,Bg,ih λi hi=>h i ae,h n ae]
theorem XJ(e:qY):∀u∈Ii e,u.oneCell'=true:=by intro u hu;simp[Ii]at hu;rcases hu with rfl|rfl<;>rfl
structure BC(w:World)(bo:Option Addr)(n:Nat)(f:Nat->qY):Prop where
 here:0<n->∃b o,bo=some ⟨b,o,none⟩/\b<w.heap.size/\∀i,i<n->w.cell? ⟨b,o+i*2,none⟩=some (ry (f i).k)/\w.cell? ⟨b,o+i*2+1,none⟩=some (f i).d
theorem BC.below{w w':World}{bo:Option Addr}{n B:Nat}{f:Nat->qY}(h:BC w bo n f)(hb:Below B w w')(hB:w.heap.size<=B):BC w' bo n f:=⟨λhn=>by obtain⟨b,o,h1,h2,h3⟩:=h.here hn;exact⟨b,o,h1,aK h2 hb.size,λi hi=>⟨(hb.cell (p:=⟨b,_,none⟩) (aK h2 hB)).trans (h3 i hi).1,(hb.cell (p:=⟨b,_,none⟩) (aK h2 hB)).trans (h3 i hi).2⟩⟩⟩
theorem rX{w w':World}{B e s n:Nat}{v:Value}{xs:List Value}(h:w.ownsRow B e s v n xs)(hk:∀g,v.ownBlock=some g->w'.heap[g]?=w.heap[g]?):w'.ownsRow B e s v n xs:=by
 refine⟨h.1,?_⟩;rcases h.2 with h1|⟨g,cap,cur,h1,h2,h3,h4⟩
 .exact .inl h1
 .exact .inr ⟨g,cap,cur,h1,h2,by rw[hk g (by rw[h1];rfl)];exact h3,h4⟩
theorem EW{w:World}{B B' t t' s s' n n':Nat}{v v':Value}{xs xs':List Value}(h:w.ownsRow B t s v n xs)(h':w.ownsRow B' t' s' v' n' xs')(ht:t≠t'){b:Nat}(hb:v.ownBlock=some b):v'.ownBlock≠some b:=λIr=>by obtain⟨c1,f1,e1⟩:=Lib.ownsRow_kind h b hb;obtain⟨c2,f2,e2⟩:=Lib.ownsRow_kind h' b Ir;rw[e1]at e2;cases e2;exact ht rfl
theorem aiD(w:World)(n B:Nat)(hB:B<=w.heap.size)(hn:n<=1048576):(w.alloc (.cells (madeCells #[.string ⟨#[]⟩,.slice none 0 0] (n*2)) 44)).ownsRow B 44 2 (.slice (some ⟨w.heap.size,0,none⟩) 0 n) 0 []:=
 ⟨rfl,.inr ⟨w.heap.size,n,madeCells #[.string ⟨#[]⟩,.slice none 0 0] (n*2),rfl,hB,dO _ _,ae,bH,gX _ _,rfl⟩⟩
theorem cell_two_new(w:World)(x y:Value)(t:TypeId):∀j u,[x,y][j]?=some u->(w.alloc (.cells #[x,y] t)).cell? ((⟨w.heap.size,0,none⟩:Addr).add j)=some u:=by
 intro j u hj
 match j,hj with
 |0,hj=>simp at hj;subst hj;simp[Addr.add]
 |1,hj=>simp at hj;subst hj;simp[Addr.add]
theorem MK{w w':World}{h n m:Nat}{fh out:Nat->qY}{v v':Value}(uK:w.ownsRow (h+1) 44 2 v' m (wW m out))(H:w.ownsRow (h+1) 97 3 v n (Ji n fh))(JS:∀b,b<w.heap.size->b≠h->some b≠v.ownBlock->w'.heap[b]?=w.heap[b]?):w'.ownsRow (h+1) 44 2 v' m (wW m out):=
 rX uK λg hg=>JS g (uK.lt g hg).2 (by have:=(uK.lt g hg).1;omega) (λe=>EW uK H au hg e.symm)
theorem Jj(w:World)(e:qY):(w.alloc (.cells #[.string ⟨e.k.toArray⟩,.slice e.a e.l e.c] 44)).cell? ⟨w.heap.size,0,none⟩=some (.string ⟨e.k.toArray⟩)/\(w.alloc (.cells #[.string ⟨e.k.toArray⟩,.slice e.a e.l e.c] 44)).cell? ⟨w.heap.size,1,none⟩=some (.slice e.a e.l e.c):=by constructor<;>simp
theorem ac5(n:Nat)(hn:n<=1048576)(w:World):(Instr.makeSlice 26 (.int .i64 0) (.int .i64 (n:Int))).run prog w=.ok (.slice (some ⟨w.heap.size,0,none⟩) 0 n) (w.alloc (.cells (madeCells #[.string ⟨#[]⟩,.slice none 0 0] (n*2)) 44)):=by obtain⟨i0,Af,x_,w_,wH⟩:=bG Tryz.Ob;have:=jg (P:=prog) w 26 44 i0 _ underlying26 Af x_ .i64 .i64 0 n ae ae fU ae;exact awK
theorem aeX{n:Nat}{f g:Nat->qY}(h:qN n f g){i j:Nat}(hi:i<n)(hj:j<n)(VG:i≠j)(e:(g i).k=(g j).k):¬(∀i j,i<j->j<n->(f i).k≠(f j).k):=by
 obtain⟨i',j',h1,h2,h3,h4,h5⟩:=h.two hi hj VG;rw[h4,h5]at e;intro hd;rcases aQ i' j' with h|h
 .exact hd i' j' h h2 e
 .exact hd j' i' ae h1 e.symm
theorem aiE{n:Nat}{f:Nat->qY}(h:∀i,i+1<n->Hp.lt (f i).k (f (i+1)).k=true):∀d i,i+d+1<n->Hp.lt (f i).k (f (i+d+1)).k=true
 |0,i,hi=>h i hi
 |d+1,i,hi=>Hp.lt_trans (aiE h d i ae) (h (i+d+1) ae)
theorem aaQ{n:Nat}{f g:Nat->qY}(h:qN n f g)(hs:∀i,i+1<n->Hp.lt (g i).k (g (i+1)).k=true):∀i j,i<j->j<n->(f i).k≠(f j).k:=λi j VG hj e=>by
 refine aeX h.symm (i:=i) (j:=j) ae hj ae e λi j VG hj e=>?_
 have:=aiE hs (j-i-1) i ae;rw[show i+(j-i-1)+1=j by omega,e,Hp.lt_irrefl]at this;cases this
def Fits(k:List UInt8):Prop:=1<=k.length/\k.length<=255
def uM(n:Nat)(f:Nat->qY):Prop:=(∀i,i<n->Fits (f i).k)/\∀i j,i<j->j<n->(f i).k≠(f j).k
def aon(n:Nat)(f:Nat->qY)(w:World)(r:Ending)(w':World):Prop:=
 Below w.heap.size w w'/\((¬uM n f/\r=.returned (.tuple #[.slice none 0 0,.bool false]))\/
  (uM n f/\∃f' v,r=.returned (.tuple #[v,.bool true])/\qN n f f'/\(∀i,i+1<n->Hp.lt (f' i).k (f' (i+1)).k=true)/\w'.ownsRow w.heap.size 44 2 v n (wW n f')))
theorem aaR{h i m k:Nat}{f out fh f2:Nat->qY}{v2 vs v':Value}{w W4 wa w5:World}(hk:i-m=k+1)(hp:Hp fh (k+1))(hR':qN i f (λx=>if x<m+1 then(if x=m then fh 0 else out x)else(if x-(m+1)=0 then fh k else fh (x-(m+1)))))
  (VK:∀x,x+1<m->Hp.lt (out x).k (out (x+1)).k=true) (hle:∀x,x<k+1->0<m->Hp.le (out (m-1)).k (fh x).k) (hne:0<m->(out (m-1)).k≠(fh 0).k) (Fh:qN k (Oc k fh) f2) (CJ:Hp f2 k) (H4:HA (h+1) h k f2 v2 W4) (b4:Below h w W4) (s4:h+1<=W4.heap.size) (o4:W4.ownsRow (h+1) 44 2 vs m (wW m out))
  (ha:Below W4.heap.size W4 wa) (hg:wa.grownBy w5 vs.ownBlock) (ho:w5.ownsRow (h+1) 44 2 v' (m+1) (wW m out++Ii (fh 0))):
  m+1<=i/\HA (h+1) h (i-(m+1)) f2 v2 w5/\Hp f2 (i-(m+1))/\qN i f (λx=>if x<m+1 then(λx=>if x=m then fh 0 else out x) x else f2 (x-(m+1)))/\(∀x,x+1<m+1->Hp.lt ((λx=>if x=m then fh 0 else out x) x).k ((λx=>if x=m then fh 0 else out x) (x+1)).k=true)/\(∀x,x<i-(m+1)->0<m+1->Hp.le ((λx=>if x=m then fh 0 else out x) (m+1-1)).k (f2 x).k)/\w5.ownsRow (h+1) 44 2 v' (m+1) (wW (m+1) (λx=>if x=m then fh 0 else out x))/\Below h w w5/\h+1<=w5.heap.size:=by
 have ek:i-(m+1)=k:=ae;have hsa:=ha.size;have kb:∀b,b<W4.heap.size->some b≠vs.ownBlock->w5.heap[b]?=W4.heap[b]?:=λb hb hne=>(hg.block b ae hne).trans (ha.block b hb)
 have Iu:Below (h+1) W4 w5:=((ha.mono s4).grown hg ae (λx hx=>(o4.lt x hx).1));have FP:=Iu.size;rw[ek];refine⟨ae,⟨H4.var.of_block (kb h ae (λe=>aws)),rX H4.own λg uB=>kb g (H4.own.lt g uB).2 (λe=>EW H4.own o4 au uB e.symm),H4.low⟩,CJ,?_,?_,?_,?_,b4.trans (Iu.mono ae),ae⟩
 .exact axy
 .intro x hx;dsimp only;rw[ah (show¬x=m by omega)];by_cases e:x+1=m
  .rw[aj e];have:=hle 0 ae ae;have h3:=Hp.lt_of_le_ne this (hne ae);rw[show m-1=x by omega]at h3;exact h3
  .rw[ah e];exact VK x ae
 .intro x hx _;dsimp only;rw[gz,aj rfl];obtain⟨j,hj,ej⟩:=Fh.from hx;rw[ej];unfold Oc;split
  .exact YZ hp k ae
  .exact YZ hp j ae
 .rw[Bg,aj rfl,QP (g:=out) λj hj=>fV];exact ho
theorem ac6(n cap:Nat)(bo:Option Addr)(f:Nat->qY)(w:World)(hn:n<=1048576)(hk:∀i,i<n->(f i).k.length<=9223372036854775807)(hB:BC w bo n f):
  Calls prog 16 #[.slice bo n cap] w λr w'=>aon n f w r w':=by
 obtain⟨i0,Af,x_,w_,wH⟩:=bG Tryz.Ob
 have v0:(w.alloc (.cells #[.slice none 0 0] 68)).rowIs w.heap.size 68 1 (λ_=>.slice none 0 0):=
  World.rowIs_alloc w #[.slice none 0 0] 68 (λ_=>.slice none 0 0) (λi hi=>by obtain rfl:i=0:=iK;rfl)
 have b0:Below w.heap.size w (w.alloc (.cells #[.slice none 0 0] 68)):=(aA _ _).alloc (ak _) _;have s0:(w.alloc (.cells #[.slice none 0 0] 68)).heap.size=w.heap.size+1:=ai;have H0:HA (w.heap.size+1) w.heap.size 0 f (.slice none 0 0) (w.alloc (.cells #[.slice none 0 0] 68)):=⟨v0,dh _ _ _ _,ae⟩;go_enter func16,ntmps16;go_wp2;generalize w.alloc (.cells #[.slice none 0 0] 68)=w0 at*;generalize hh:w.heap.size=h at*
 go_loopw [6,11] (λ_ vi wr=>∃(i:Nat)(f':Nat->qY)(v:Value),i<=n/\vi=.int .i64 ((i:Nat):Int)/\HA (h+1) h i f' v wr/\qN i f f'/\Hp f' i/\Below h w wr/\h+1<=wr.heap.size/\∀j,j<i->Fits (f j).k) (λ_ vi _=>n-(intOf vi).toNat)
 case atStart=>exact⟨0,f,_,ae,rfl,H0,qN.refl _ _,λc _ hc=>absurd hc ae,b0,ae,λj hj=>absurd hj ae⟩
 case round=>
  clear v0 b0 s0 H0;obtain⟨i,f',v,hi,rfl,H,hR,hp,hb,hs,hf⟩:=hrel;by_cases qE:i<n
  .have Ag:(i:Int)<(n:Int):=ae;obtain⟨b,o,rfl,Ns,hcell⟩:=(hB.below hb ae).here ae;obtain⟨c0,c1⟩:=hcell i qE;clear hcell
   have nV:(wr.alloc (.cells #[ry (f i).k,(f i).d] 44)).rowIs wr.heap.size 44 2 (λj=>if j=0 then ry (f i).k else(f i).d):=
    World.rowIs_alloc wr #[ry (f i).k,(f i).d] 44 _ (λi hi=>by have:i=0\/i=1:=iK;rcases this with rfl|rfl<;>rfl)
   have H1:HA (h+1) h i f' v (wr.alloc (.cells #[ry (f i).k,(f i).d] 44)):=⟨H.var.alloc _,H.own.alloc _,H.low⟩;have b1:=hb.alloc ae (.cells #[ry (f i).k,(f i).d] 44);have s1:h+1<=(wr.alloc (.cells #[ry (f i).k,(f i).d] 44)).heap.size:=az;have e0:=nV.cell (i:=0) ae;have e1:=nV.cell (i:=1) ae;simp only[aF,jJ,aU]at e0 e1;by_cases amO:Fits (f i).k
   .have kn:=Y0 (f i).k amO;have kp:=akK (h+1) h i f' v (f i) _ H1 s1 ae hp;have Fh:qN (i+1) f (λx=>if x=i then f i else f' x):=hR.snoc (λ_ _=>rfl) (λx hx=>fV) (by rw[aj rfl]);clear H1 H hb nV;generalize BB:wr.alloc (.cells #[ry (f i).k,(f i).d] 44)=w1 at*;simp only[ry,qY.d]at*
    go_wp2_with(first
     |(go_at_call 22;(with_reducible refine(kn _).mono ?_);rintro r w' ⟨rfl,tH⟩;obtain rfl:=tH.symm)
     |(go_at_call 23;(with_reducible refine kp.mono ?_);rintro r w2 ⟨rfl,f2,v2,H2,XH,CJ,sZ,zD⟩))
    go_roundw
    case rel=>exact⟨i+1,f2,v2,ae,aW,H2,Fh.trans XH,CJ,b1.trans sZ,zD,λj hj=>by
     by_cases e:j=i
     .rw[e];exact amO
     .exact hf j ae⟩
    case measure=>simp[intOf];omega
   .have kn:=aaS (f i).k amO (hk i qE);have bad:¬uM n f:=λhN=>amO (hN.1 i qE)
    clear H1 H hb nV;generalize BB:wr.alloc (.cells #[ry (f i).k,(f i).d] 44)=w1 at*;simp only[ry,qY.d]at c0 c1 e0 e1 BB
    go_wp2_with(first
     |(go_at_call 22;(with_reducible refine(kn _).mono ?_);rintro r w' ⟨rfl,tH⟩;obtain rfl:=tH.symm))
    go_ret2;exact⟨by rw[hh];exact b1,.inl ⟨bad,rfl⟩⟩
  .obtain rfl:i=n:=ae;have GH:¬((i:Int)<(i:Int)):=ae;have mk:=ac5 i hn wr;have C_:=aiD wr i (h+1) hs hn;have H1:HA (h+1) h i f' v (wr.alloc (.cells (madeCells #[.string ⟨#[]⟩,.slice none 0 0] (i*2)) 44)):=⟨H.var.alloc _,H.own.alloc _,H.low⟩;have b1:=hb.alloc ae (.cells (madeCells #[.string ⟨#[]⟩,.slice none 0 0] (i*2)) 44);have s1:h+1<=(wr.alloc (.cells (madeCells #[.string ⟨#[]⟩,.slice none 0 0] (i*2)) 44)).heap.size:=az;clear H hb hs;go_wp2;generalize wr.alloc (.cells (madeCells #[.string ⟨#[]⟩,.slice none 0 0] (i*2)) 44)=w1 at*
   go_loopw [7,8] (λvs _ wq=>∃(m:Nat)(out fh:Nat->qY)(v:Value),m<=i/\HA (h+1) h (i-m) fh v wq/\Hp fh (i-m)/\qN i f (λx=>if x<m then out x else fh (x-m))/\(∀x,x+1<m->Hp.lt (out x).k (out (x+1)).k=true)/\(∀x,x<i-m->0<m->Hp.le (out (m-1)).k (fh x).k)/\wq.ownsRow (h+1) 44 2 vs m (wW m out)/\Below h w wq/\h+1<=wq.heap.size) (λvs _ _=>match vs with| .slice _ m _=>i-m|_=>0)
   case atStart=>exact⟨0,f',f',v,ae,H1,hp,hR.congr λx _=>avM,λx hx=>absurd hx ae,λx _ h0=>absurd h0 ae,C_,b1,s1⟩
   case round=>
    clear H1 C_ b1 s1 mk hp hR;obtain⟨m,out,fh,v,hm,H,hp,hR,VK,hle,uK,hb,hs⟩:=hrel;have kl:=amP (h+1) h (i-m) fh v _ H
    obtain⟨bs,cs,rfl⟩:∃bs cs,u7=.slice bs m cs:=by exact ayc
    by_cases hmn:m<i
    .obtain⟨k,VH⟩:∃k,i-m=k+1:=⟨i-m-1,ae⟩;rw[VH]at H hp kl hle;have hgt:(0:Int)<(k:Int)+1:=ae;have kp:=amQ (h+1) h k fh v _ H hs ae hp;have hR':=hR.trans ((qN.akL (k:=k) (o:=out) (g:=fh) (show m+(k+1)=i by omega)));have hp0:=hp;rcases dK m with h0|h0
     .have hd:decide ((0:Int)<(m:Int))=false:=by rw[h0];rfl
      have hd2:decide (0<m)=false:=by rw[h0];rfl
      replace h0:m<1:=ae
      go_wp2_with(first
       |(go_at_call 24;(with_reducible refine kl.mono ?_);rintro r w' ⟨rfl,tH⟩;obtain rfl:=tH.symm)
       |(go_at_call 25;(with_reducible refine kp.mono ?_);rintro r w2 ⟨rfl,f2,v2,H2,Fh,CJ,sZ,zD,JS⟩;have o2:=MK uK H.own JS;simp only[ry,qY.d];obtain⟨nb,nc⟩:=Jj w2 (fh 0);have o3:=o2.alloc (.cells #[.string ⟨(fh 0).k.toArray⟩,.slice (fh 0).a (fh 0).l (fh 0).c] 44);have H3:HA (h+1) h k f2 v2 (w2.alloc (.cells #[.string ⟨(fh 0).k.toArray⟩,.slice (fh 0).a (fh 0).l (fh 0).c] 44)):=⟨H2.var.alloc _,H2.own.alloc _,H2.low⟩;have b3:=(hb.trans sZ).alloc ae (.cells #[.string ⟨(fh 0).k.toArray⟩,.slice (fh 0).a (fh 0).l (fh 0).c] 44);have s3:h+1<=(w2.alloc (.cells #[.string ⟨(fh 0).k.toArray⟩,.slice (fh 0).a (fh 0).l (fh 0).c] 44)).heap.size:=az;clear kp kl H uK hp JS H2 o2))
      go_wp2
      go_quiet (fail)
      generalize hW:w2.alloc (.cells #[.string ⟨(fh 0).k.toArray⟩,.slice (fh 0).a (fh 0).l (fh 0).c] 44)=W at*;replace nb:(W.drewN nq).cell? ⟨w2.heap.size,0,none⟩=some (.string ⟨(fh 0).k.toArray⟩):=nb;replace nc:(W.drewN nq).cell? ⟨w2.heap.size,1,none⟩=some (.slice (fh 0).a (fh 0).l (fh 0).c):=nc;have H4:=H3.drew nq;have b4:=below_drewN b3 nq;replace o3:(W.drewN nq).ownsRow (h+1) 44 2 (.slice bs m cs) m (wW m out):=o3;replace s3:h+1<=(W.drewN nq).heap.size:=s3;generalize W.drewN nq=W4 at*;clear hW H3 b3;clear W
      go_wp2_with(at_builtin;refine dG _ rfl _ _ 26 rfl (h+1) 44 i0 (.agg #[.string ⟨#[]⟩,.slice none 0 0]) 2 40 underlying26 Af x_ w_ wH rfl au _ _ _ rfl (o3.alloc _) ⟨W4.heap.size,0,none⟩ 1 1 (Ii (fh 0)) rfl rfl (cell_two_new _ _ _ _) (XJ _) bH ae az ?_;intro v' w5 CE tq _;obtain⟨gq,cq,rfl,_,_⟩:=CE.form ae)
      go_roundw
      case rel=>exact⟨m+1,λx=>if x=m then fh 0 else out x,f2,v2,aaR VH hp0 hR' VK hle (λh=>absurd h ae) Fh CJ H4 b4 s3 o3 ((aA _ _).alloc (ak _) _) tq CE⟩
      case measure=>simp;omega
     .have hd:(0:Int)<(m:Int):=ae;have Lc:0<=(m:Int)-1:=ae;have Gz:(m:Int)-1<(m:Int):=ae
      obtain⟨gs,rfl,hgs⟩:∃gs,bs=some ⟨gs,0,none⟩/\h+1<=gs:=by
       rcases uK.2 with⟨_,h1⟩|⟨g,cap,_,h1,h2,_⟩
       .omega
       .cases h1;exact⟨_,rfl,h2⟩
      by_cases hne:(out (m-1)).k=(fh 0).k
      .have Xd:¬uM i f:=λhN=>aeX hR' (i:=m-1) (j:=m) ae ae ae (by rw[aj ae,ah ae,aj ae,aj rfl];exact hne) hN.2
       go_wp2_with(first
        |(go_at_call 24;(with_reducible refine kl.mono ?_);rintro r w' ⟨rfl,tH⟩;obtain rfl:=tH.symm)
        |(go_at_call 25;(with_reducible refine kp.mono ?_);rintro r w2 ⟨rfl,f2,v2,H2,Fh,CJ,sZ,zD,JS⟩;have o2:=MK uK H.own JS;simp only[ry,qY.d];obtain⟨nb,nc⟩:=Jj w2 (fh 0);have o3:=o2.alloc (.cells #[.string ⟨(fh 0).k.toArray⟩,.slice (fh 0).a (fh 0).l (fh 0).c] 44);have H3:HA (h+1) h k f2 v2 (w2.alloc (.cells #[.string ⟨(fh 0).k.toArray⟩,.slice (fh 0).a (fh 0).l (fh 0).c] 44)):=⟨H2.var.alloc _,H2.own.alloc _,H2.low⟩;have b3:=(hb.trans sZ).alloc ae (.cells #[.string ⟨(fh 0).k.toArray⟩,.slice (fh 0).a (fh 0).l (fh 0).c] 44);have s3:h+1<=(w2.alloc (.cells #[.string ⟨(fh 0).k.toArray⟩,.slice (fh 0).a (fh 0).l (fh 0).c] 44)).heap.size:=az;have l0:=o3.cellAt ((m-1)*2) ae;rw[show(wW m out)[(m-1)*2]?=some (.string ⟨(out (m-1)).k.toArray⟩)from(J8 m out (m-1) 0 ae ae)]at l0;clear kp kl H uK hp JS H2 o2))
       simp only[hne]at l0;go_wp2
       go_quiet (fail)
       go_wp2;go_ret2;exact⟨by rw[hh];exact below_drewN b3 _,.inl ⟨Xd,rfl⟩⟩
      .have asF:((out (m-1)).k==(fh 0).k)=false:=nC.2 hne
       go_wp2_with(first
        |(go_at_call 24;(with_reducible refine kl.mono ?_);rintro r w' ⟨rfl,tH⟩;obtain rfl:=tH.symm)
        |(go_at_call 25;(with_reducible refine kp.mono ?_);rintro r w2 ⟨rfl,f2,v2,H2,Fh,CJ,sZ,zD,JS⟩;have o2:=MK uK H.own JS;simp only[ry,qY.d];obtain⟨nb,nc⟩:=Jj w2 (fh 0);have o3:=o2.alloc (.cells #[.string ⟨(fh 0).k.toArray⟩,.slice (fh 0).a (fh 0).l (fh 0).c] 44);have H3:HA (h+1) h k f2 v2 (w2.alloc (.cells #[.string ⟨(fh 0).k.toArray⟩,.slice (fh 0).a (fh 0).l (fh 0).c] 44)):=⟨H2.var.alloc _,H2.own.alloc _,H2.low⟩;have b3:=(hb.trans sZ).alloc ae (.cells #[.string ⟨(fh 0).k.toArray⟩,.slice (fh 0).a (fh 0).l (fh 0).c] 44);have s3:h+1<=(w2.alloc (.cells #[.string ⟨(fh 0).k.toArray⟩,.slice (fh 0).a (fh 0).l (fh 0).c] 44)).heap.size:=az;have l0:=o3.cellAt ((m-1)*2) ae;rw[show(wW m out)[(m-1)*2]?=some (.string ⟨(out (m-1)).k.toArray⟩)from(J8 m out (m-1) 0 ae ae)]at l0;clear kp kl H uK hp JS H2 o2))
       go_wp2
       go_quiet (fail)
       generalize hW:w2.alloc (.cells #[.string ⟨(fh 0).k.toArray⟩,.slice (fh 0).a (fh 0).l (fh 0).c] 44)=W at*;replace nb:(W.drewN nq).cell? ⟨w2.heap.size,0,none⟩=some (.string ⟨(fh 0).k.toArray⟩):=nb;replace nc:(W.drewN nq).cell? ⟨w2.heap.size,1,none⟩=some (.slice (fh 0).a (fh 0).l (fh 0).c):=nc;have H4:=H3.drew nq;have b4:=below_drewN b3 nq;replace o3:(W.drewN nq).ownsRow (h+1) 44 2 (.slice (some ⟨gs,0,none⟩) m cs) m (wW m out):=o3;replace s3:h+1<=(W.drewN nq).heap.size:=s3;generalize W.drewN nq=W4 at*;clear hW H3 b3 l0;clear W
       go_wp2_with(at_builtin;refine dG _ rfl _ _ 26 rfl (h+1) 44 i0 (.agg #[.string ⟨#[]⟩,.slice none 0 0]) 2 40 underlying26 Af x_ w_ wH rfl au _ _ _ rfl (o3.alloc _) ⟨W4.heap.size,0,none⟩ 1 1 (Ii (fh 0)) rfl rfl (cell_two_new _ _ _ _) (XJ _) bH ae az ?_;intro v' w5 CE tq _;obtain⟨gq,cq,rfl,_,_⟩:=CE.form ae)
       go_roundw
       case rel=>exact⟨m+1,λx=>if x=m then fh 0 else out x,f2,v2,aaR VH hp0 hR' VK hle (λ_=>hne) Fh CJ H4 b4 s3 o3 ((aA _ _).alloc (ak _) _) tq CE⟩
       case measure=>simp;omega
    .obtain rfl:m=i:=ae;rw[kD]at kl;rw[show((0:Nat):Int)=0 from rfl]at kl;have Ez:qN m f out:=hR.congr λx hx=>by rw[aj hx]
     have hN:uM m f:=⟨hf,aaQ Ez VK⟩;clear hp hle hR H
     go_wp2_with(first|(go_at_call 24;(with_reducible refine kl.mono ?_);rintro r w' ⟨rfl,tH⟩;obtain rfl:=tH.symm))
     go_ret2;exact⟨auY,.inr ⟨hN,out,_,rfl,Ez,VK,avN⟩⟩
end Go.Proofs.Y
namespace Go.Proofs.Y
open Go.Proofs.Tryz
open Go.RowKit Go.Deep
def rG(B:Nat)(w:World)(v:Value)(l:List UInt8):Prop:=w.ownsRow B 5 1 v l.length (r_ l)
theorem rG.of{B n:Nat}{w:World}{v:Value}{l:List UInt8}(h:w.ownsRow B 5 1 v n (r_ l)):rG B w v l:=by have:n=l.length:=awk;subst this;exact h
theorem rG.alloc{B:Nat}{w:World}{v:Value}{l:List UInt8}(h:rG B w v l)(o:Obj):rG B (w.alloc o) v l:=World.ownsRow.alloc h o
def Y1:Obj->Bool
 | .cells _ t _=>t != 5
 |_=>true
structure yP(w w':World):Prop where
 size:w.heap.size<=w'.heap.size
 same:∀(k:Nat)(o:Obj),w.heap[k]?=some o->Y1 o=true->w'.heap[k]?=some o
theorem yP.refl(w:World):yP w w:=⟨ak _,λ_ _ h _=>h⟩
theorem yP.trans{a b c:World}(h:yP a b)(k:yP b c):yP a c:=⟨aJ h.size k.size,λi o hh ht=>k.same i o (h.same i o hh ht) ht⟩
theorem yP.alloc{a w:World}(h:yP a w)(o:Obj):yP a (w.alloc o):=h.trans ⟨ai,λk o' hh _=>by have hk:k<w.heap.size:=(bf.1 hh).1;exact(bM w o k hk).trans hh⟩
theorem rG.keeps{B:Nat}{w w':World}{v:Value}{l:List UInt8}(h:rG B w v l)(hg:w.grownBy w' v.ownBlock):yP w w':=⟨hg.size,λk o hh ht=>by
 have hk:k<w.heap.size:=(bf.1 hh).1;rw[hg.block k hk ?_]
 .exact hh
 .intro e;rcases h.2 with⟨rfl,_⟩|⟨g,cap,cur,rfl,_,hb,_⟩
  .cases e
  .cases e;rw[hb]at hh;cases hh;simp[Y1]at ht⟩
theorem qf.AV{w w':World}{b:Nat}{cs:List Value}{t:TypeId}(h:qf w b cs t)(hk:yP w w')(ht:t≠5):qf w' b cs t:=hk.same b _ h (by simpa[Y1]using ht)
def afq(B:Nat)(w:World)(l:List UInt8)(r:Ending)(w':World):Prop:=∃v,r=.returned v/\rG B w' v l/\Below B w w'/\yP w w'
theorem zM(X N:Int)(x n:Nat)(hX:X=x)(hx:x<2^64)(hN:N=n)(hn:n<=8)(B:Nat)(v0:Value)(l:List UInt8)(hl:l.length<2^40)(w:World)(h0:rG B w v0 l)(hB:B<=w.heap.size):
  Calls prog 45 #[v0,.int .u64 X,.int .i64 N] w λr w'=>afq B w (l++uP n x) r w':=by
 subst hX hN;obtain⟨i0,Af,x_,w_,wH⟩:=bG Dc;go_enter func45,ntmps45;go_wp2
 go_loopw [0,1,8] (λv vv vi wr=>∃c:Nat,c<=n/\vv=.int .u64 ((x/256^c:Nat):Int)/\vi=.int .i64 (c:Int)/\wr.ownsRow B 5 1 v (l.length+c) (r_ (l++uP c x))/\Below B w wr/\yP w wr) (λ_ _ i _=>n-(intOf i).toNat)
 case atStart=>exact⟨0,ae,ai,rfl,by have:=h0;unfold rG at this;simpa[uP]using this,aA _ _,yP.refl _⟩
 case round=>
  obtain⟨c,hc,rfl,rfl,uK,Nu,hkt⟩:=hrel;clear h0;have hsz:=Nu.size;by_cases qE:c<n
  .obtain⟨y,ey⟩:∃y,x/256^c=y:=⟨_,rfl⟩;have hy:y<2^64:=by rw[<-ey];exact iP (Nat.div_le_self _ _) hx
   have EQ:Hid (r_ (l++uP c x)++[.int .u8 ((y%256:Nat):Int)]=r_ (l++uP (c+1) x)):=aiF _ (y%256) ae _ (by rw[aaT,ey,dU]);have DV:Hid (y/256=x/256^(c+1)):=by rw[<-ey,avg,iO];exact rfl
   rw[ey];clear ey hx
   go_wp2_with(at_builtin;refine dG _ rfl _ _ 34 rfl B 5 i0 (.int .u8 0) 1 1 underlying34 Af x_ w_ wH rfl au _ _ _ rfl (uK.alloc _) ⟨wr.heap.size,0,none⟩ 1 1 [.int .u8 ((y%256:Nat):Int)] rfl rfl (cell_one_new _ _ _) (al0 _) bH ae az ?_;intro v2 w2 zC tq _)
   have sZ:=(Nu.alloc ae (.cells #[Value.int .u8 ((y%256:Nat):Int)] 5)).grown tq az (λk hk=>(uK.lt k hk).1);have O3:yP w w2:=(hkt.alloc _).trans (rG.keeps (rG.of (uK.alloc _)) tq);clear tq;go_wp2
   go_roundw
   case rel=>exact⟨c+1,ae,by rw[<-DV.out];go_num,aW,by rw[<-EQ.out];exact zC,sZ,O3⟩
   case measure=>simp[intOf];omega
  .have e:c=n:=ae;subst e;go_wp2;go_ret;exact⟨_,rfl,rG.of uK,Nu,hkt⟩
def CQ(w:World):Prop:=2<w.heap.size/\∀i,i<16->w.cell? ⟨2,i,none⟩=some (.int .u64 ((FH.getD i 0:Nat):Int))
theorem CQ.below{w w':World}{B:Nat}(h:CQ w)(hb:Below B w w')(hB:2<B):CQ w':=
 ⟨aK h.1 hb.size,λi hi=>(hb.cell (p:=⟨2,i,none⟩) hB).trans (h.2 i hi)⟩
theorem CQ.heap{w w':World}(h:CQ w)(hh:w'.heap=w.heap):CQ w':=by refine⟨by rw[hh];exact h.1,λi hi=>?_⟩;have:=h.2 i hi;unfold World.cell? at*;rw[hh];exact this
theorem XK(bb bo cap:Nat)(l:List UInt8)(hl:l.length<2^60)(w:World)(hb:CS w bb bo l)(ht:CQ w):
  Calls prog 76 #[.slice (some ⟨bb,bo,none⟩) l.length cap] w λe w'=>e=.returned (.int .u64 (sumOf l:Nat))/\w'=w:=
 al1 bb bo l.length cap (l.map UInt8.toNat) ai (λi _=>by rw[aaU];exact Fv l i) ae w (λi hi=>by rw[aaU];exact hb i hi) ht.2
theorem Uz(B:Nat)(v0:Value)(l:List UInt8)(hl:l.length<2^40)(w:World)(h0:rG B w v0 l)(hB:B<=w.heap.size)(bb bo cap:Nat)(p:List UInt8)(hp:p.length<2^60)(hb:CS w bb bo p)(ht:CQ w):
  Calls prog 46 #[v0,.slice (some ⟨bb,bo,none⟩) p.length cap] w λr w'=>afq B w (l++uP 8 (sumOf p)) r w':=by
 have K1:=XK bb bo cap p hp w hb ht;have hs:=IJ p;obtain⟨s,es⟩:∃s,sumOf p=s:=⟨_,rfl⟩;rw[es]at K1 hs⊢;have K2:=zM (s:Int) 8 s 8 rfl hs rfl ae B v0 l hl w h0 hB;clear h0 hb ht es;go_enter func46,ntmps46
 go_wp2_with(first|(go_at_call 76;refine K1.mono ?_;rintro r w' ⟨rfl,tH⟩;obtain rfl:=tH.symm)|(go_at_call 45;refine K2.mono ?_;rintro r w' ⟨v,rfl,h1,h2,h3⟩))
 go_ret;exact⟨_,rfl,h1,h2,h3⟩
theorem QQ(B:Nat)(v0:Value)(l:List UInt8)(hl:l.length<2^40)(hp:0<l.length)(w:World)(h0:rG B w v0 l)(hB:B<=w.heap.size)(ht:CQ w):
  Calls prog 46 #[v0,v0] w λr w'=>afq B w (rf l) r w':=by
 obtain⟨g,c,e,_,_,_,_,hb⟩:=Aq h0 hp;have K:=Uz B v0 l hl w h0 hB g 0 c l ae hb ht;rw[<-e]at K;exact K
theorem ac7(a b:List UInt8):r_ (a++b)=r_ a++r_ b:=dL
theorem rG.lt{B:Nat}{w:World}{v:Value}{l:List UInt8}(h:rG B w v l)(k:Nat)(hk:v.ownBlock=some k):B<=k:=(eQ h k hk).1
theorem rG.more{B n m:Nat}{w:World}{v:Value}{l k:List UInt8}{xs:List Value}(h:w.ownsRow B 5 1 v (n+m) (r_ l++xs))(e:xs=r_ k):rG B w v (l++k):=by subst e;rw[<-ac7]at h;exact rG.of h
theorem rG.grown{B:Nat}{w w':World}{v:Value}{l:List UInt8}(h:rG B w v l)(hg:w.grownBy w' v.ownBlock)(hB:B<=w.heap.size):Below B w w':=
 (aA B w).grown hg hB (λk hk=>h.lt k hk)
theorem J9(ns:List (List UInt8))(zs:List Int)(i:Nat):(wS ns zs i).length=Dh ns i:=GZ ns zs i
theorem Y5(vN vS:Value)(ns:List (List UInt8))(zs:List Int)(DX:UA ns zs)(hn:ns.length<=1000)(ht:EG zs<=65536)(w:World)(h1:qR w vN (wO ns))(h2:qR w vS (FC zs))(hT:CQ w):
  Calls prog 28 #[vN,vS] w λr w'=>∃v,r=.returned v/\rG w.heap.size w' v (rf (wS ns zs ns.length))/\Below w.heap.size w w':=by
 have K0:=QR vN ns hn DX.2.1 w h1;obtain⟨i0,Af,x_,w_,wH⟩:=bG Dc;obtain⟨m,em⟩:∃m,IL ns=m:=⟨_,rfl⟩;rw[em]at K0
 have hm:m<=1000000:=by exact ax5
 obtain⟨w0,hmk,ho0,hg0⟩:=run_make_own (P:=prog) w w.heap.size 34 5 i0 (.int .u8 0) 1 underlying34 Af x_ w_ .i64 .i64 (m+8) fU bH (ak _);rw[show((m+8:Nat):Int)=(m:Int)+8 by omega]at hmk;have xq:Below w.heap.size w w0:=(aA _ _).grown hg0 (ak _) (λk hk=>by cases hk);have hO0:rG w.heap.size w0 (.slice (some ⟨w.heap.size,0,none⟩) 0 (m+8)) []:=rG.of ho0;have K1:=zM (ns.length:Int) 4 ns.length 4 rfl ae rfl ae w.heap.size _ [] ai w0 hO0 xq.size;obtain⟨ba,cap,rfl,BD,hc⟩:=id h1;obtain⟨bz,atp,rfl,arq,hcz⟩:=id h2;rw[v_]at BD K0⊢;rw[ER]at arq⊢;have hlen:Hid (ns.length=zs.length):=DX.1;have HK:Hid (UA ns zs):=DX;clear ho0 hg0 em h1 h2 DX;go_enter func28,ntmps28
 go_wp2_with(first|(go_at_call 44;refine K0.mono ?_;rintro r w' ⟨rfl,tH⟩;obtain rfl:=tH.symm)|(go_at_call 45;refine K1.mono ?_;rintro r w1 ⟨v1,rfl,UB,t_,JR⟩))
 have Iq:Below w.heap.size w w1:=xq.trans t_;clear K0 K1 hmk hO0 xq t_;rw[bg]at UB
 go_loopw [5,6,7,19] (λv _ _ vi wr=>∃c:Nat,c<=ns.length/\vi=.int .i64 (c:Int)/\rG w.heap.size wr v (wS ns zs c)/\Below w.heap.size w wr) (λ_ _ _ i _=>ns.length-(intOf i).toNat)
 case atStart=>exact⟨0,ae,rfl,by simpa[wS]using UB,Iq⟩
 case round=>
  obtain⟨c,KP,rfl,uK,Nu⟩:=hrel;clear UB Iq;have hsz:=Nu.size;by_cases qE:c<ns.length
  .obtain⟨b,off,rfl,hcell⟩:=hc c _ (Gf qE);obtain⟨b2,aoo,rfl,VL⟩:=hcz c _ (Y6 pU)
   have hl1:(wS ns zs c).length<=1000000:=by have:=Bh ns HK.out.2.1 c ae;rw[J9];omega
   have hsc:=(HK.out.2.1 c qE).1;have hzc:=HK.out.2.2 c pU
   have hz3:(zs.getD c 0).toNat<=65536:=by have:=UC zs (i:=c+1) pU;rw[G5]at this;omega
   have MS:Hid _:=UD ns zs c;obtain⟨s,es⟩:∃s,ns.getD c []=s:=⟨_,rfl⟩;obtain⟨z,ez⟩:∃z:Nat,zs.getD c 0=(z:Int):=⟨(zs.getD c 0).toNat,ae⟩;obtain⟨M,eM⟩:∃M,wS ns zs c=M:=⟨_,rfl⟩;rw[es]at hcell hsc MS;rw[ez]at VL hz3 MS;rw[eM]at hl1 MS uK;rw[gI]at hz3 MS;have hcw:=(Nu.cell (p:=⟨b,off+c,none⟩) (rM hcell)).trans hcell;have asL:∀w',Below w.heap.size wr w'->w'.cell? ⟨b2,aoo+c,none⟩=some (.int .i64 (z:Int)):=λw' hb=>(hb.cell (p:=⟨b2,aoo+c,none⟩) (rM VL)).trans ((Nu.cell (p:=⟨b2,aoo+c,none⟩) (rM VL)).trans VL)
   have hbs:=Tj s;have K1:=zM (s.length:Int) 2 s.length 2 rfl ae rfl ae w.heap.size _ M ae wr uK Nu.size;have L_:(c:Int)<(zs.length:Int):=pU;clear es ez eM hcell VL hzc hc hcz ht
   go_wp2_with(first
    |(go_at_call 45;refine K1.mono ?_;clear K1;rintro r w2 ⟨v2,rfl,ND,sZ,O3⟩;have zD:=sZ.size)
    |(at_builtin;refine Lib.wpList_append_own_string _ rfl _ _ 34 9 rfl w.heap.size 5 i0 underlying34 underlying9 Af x_ w_ wH _ _ _ rfl ND ⟨s.toArray⟩ rfl (by rw[hbs];simp[qU];unfold maxLen;omega) (by rw[hbs];simp[qU];omega) ae ?_;intro v3 w3 ang akM _;have hO3:rG w.heap.size w3 v3 (M++uP 2 s.length++s):=rG.more ang (Y7 s);have vK:Below w.heap.size wr w3:=sZ.trans (ND.grown akM ae);have hc3:=asL _ vK;have xu:=vK.size;have K2:=zM (z:Int) 4 z 4 rfl ae rfl ae w.heap.size _ (M++uP 2 s.length++s) (by simp[qU];omega) w3 hO3 ae;clear ang akM hO3)
    |(go_at_call 45;refine K2.mono ?_;clear K2;rintro r w4 ⟨v4,rfl,hO4,hb4,hk4⟩))
   go_roundw
   case rel=>exact⟨c+1,ae,aW,by rw[MS.out];exact hO4,Nu.trans (vK.trans hb4)⟩
   case measure=>simp[intOf];omega
  .obtain rfl:c=ns.length:=ae
   have hl1:(wS ns zs ns.length).length<=1000000:=by have:=Bh ns HK.out.2.1 ns.length ae;rw[J9];omega
   have hl0:0<(wS ns zs ns.length).length:=by rw[J9];unfold Dh;omega
   have K3:=QQ w.heap.size _ (wS ns zs ns.length) ae hl0 wr uK Nu.size (hT.below Nu hT.1);clear hc hcz hl1 hl0
   go_wp2_with(first|(go_at_call 46;refine K3.mono ?_;rintro r w2 ⟨v2,rfl,ND,sZ,O3⟩))
   go_ret;exact⟨_,rfl,ND,Nu.trans sZ⟩
end Go.Proofs.Y
namespace Go.Proofs.Y
open Go.Proofs.Tryz
open Go.RowKit Go.Deep Go.Hp
theorem Tryz.aop:(prog.info? 9).map (λi=>(i.zero,i.size,i.bytes))=some (some (.string ⟨#[]⟩),1,16):=ag
theorem Tryz.aoq:(prog.info? 3).map (λi=>(i.zero,i.size,i.bytes))=some (some (.int .i64 0),1,8):=ag
def qB(n:Nat)(f:Nat->qY):List (List UInt8):=(List.range n).map λi=>(f i).k
def qG(n:Nat)(f:Nat->qY):List Int:=(List.range n).map λi=>((f i).l:Int)
theorem vG(n:Nat)(f:Nat->qY):(qB n f).length=n:=by simp[qB]
theorem yh(n:Nat)(f:Nat->qY):(qG n f).length=n:=by simp[qG]
theorem aaV(n:Nat)(f:Nat->qY):wO (qB (n+1) f)=wO (qB n f)++[.string ⟨(f n).k.toArray⟩]:=by simp[wO,qB,dC]
theorem aaW(n:Nat)(f:Nat->qY):FC (qG (n+1) f)=FC (qG n f)++[.int .i64 ((f n).l:Int)]:=by simp[FC,qG,dC]
theorem aiG(x:ByteArray):∀u∈[Value.string x],u.oneCell'=true:=by intro u hu;simp at hu;subst hu;rfl
theorem aiH(x:Int):∀u∈[Value.int .i64 x],u.oneCell'=true:=by intro u hu;simp at hu;subst hu;rfl
theorem BH(w:World)(x:Value)(t:TypeId):∀j u,[x][j]?=some u->(w.alloc (.cells #[x] t)).cell? ((⟨w.heap.size,0,none⟩:Addr).add j)=some u:=by
 intro j u hj
 match j,hj with
 |0,hj=>simp at hj;subst hj;simp[Addr.add]
def aiI(n:Nat)(f:Nat->qY)(w:World)(r:Ending)(w':World):Prop:=Below w.heap.size w w'/\∃vn vs,r=.returned (.tuple #[vn,vs])/\w'.ownsRow w.heap.size 9 1 vn n (wO (qB n f))/\w'.ownsRow w.heap.size 3 1 vs n (FC (qG n f))
theorem Oe{w wa w1:World}{B t t' s s' n n':Nat}{v v':Value}{xs xs':List Value}(h:w.ownsRow B t s v n xs)(h':w.ownsRow B t' s' v' n' xs')(ht:t≠t')(ha:Below w.heap.size w wa)(hg:wa.grownBy w1 v.ownBlock):w1.ownsRow B t' s' v' n' xs':=
 rX h' λg uB=>(hg.block g (aK (h'.lt g uB).2 ha.size) (λe=>EW h h' ht e.symm uB)).trans (ha.block g (h'.lt g uB).2)
theorem PW{w wa w1:World}{B h0 t s n:Nat}{v:Value}{xs:List Value}(h:w.ownsRow B t s v n xs)(hB:B<=w.heap.size)(ha:Below w.heap.size w wa)(hg:wa.grownBy w1 v.ownBlock)(_:h0<=B):Below B w w1:=
 (ha.mono hB).grown hg (aJ hB ha.size) (λx hx=>(h.lt x hx).1)
theorem aaX(n cap:Nat)(bo:Option Addr)(f:Nat->qY)(w:World)(hn:n<=1048576)(hB:BC w bo n f):
  Calls prog 26 #[.slice bo n cap] w λr w'=>aiI n f w r w':=by
 obtain⟨i0,Af,x_,w_,wH⟩:=bG Tryz.aop;obtain⟨i1,Lc,hy0,hy1,hy2⟩:=bG Tryz.aoq;have p0:w.ownsRow w.heap.size 9 1 (.slice none 0 0) 0 (wO (qB 0 f)):=dh _ _ _ _;have q0:w.ownsRow w.heap.size 3 1 (.slice none 0 0) 0 (FC (qG 0 f)):=dh _ _ _ _;go_enter func26,ntmps26;go_wp2;generalize hh:w.heap.size=h at*
 go_loopw [2,3,8] (λva vb vi wr=>∃(i:Nat),i<=n/\vi=.int .i64 ((i:Nat):Int)/\wr.ownsRow h 9 1 va i (wO (qB i f))/\wr.ownsRow h 3 1 vb i (FC (qG i f))/\Below h w wr/\h<=wr.heap.size) (λ_ _ vi _=>n-(intOf vi).toNat)
 case atStart=>exact⟨0,ae,rfl,p0,q0,aA _ _,ae⟩
 case round=>
  clear p0 q0;obtain⟨i,hi,rfl,hp,hq,hb,hs⟩:=hrel;by_cases qE:i<n
  .have Ag:(i:Int)<(n:Int):=ae;obtain⟨b,o,rfl,Ns,hcell⟩:=(hB.below hb ae).here ae;obtain⟨c0,c1⟩:=hcell i qE;clear hcell;obtain⟨e0,e1⟩:=Jj wr (f i);have EJ:=hp.alloc (.cells #[.string ⟨(f i).k.toArray⟩,.slice (f i).a (f i).l (f i).c] 44);have hq1:=hq.alloc (.cells #[.string ⟨(f i).k.toArray⟩,.slice (f i).a (f i).l (f i).c] 44);have t_:=hb.alloc ae (.cells #[.string ⟨(f i).k.toArray⟩,.slice (f i).a (f i).l (f i).c] 44);have x9:h<=(wr.alloc (.cells #[.string ⟨(f i).k.toArray⟩,.slice (f i).a (f i).l (f i).c] 44)).heap.size:=az
   have nb:(wr.alloc (.cells #[.string ⟨(f i).k.toArray⟩,.slice (f i).a (f i).l (f i).c] 44)).ownsRow h 44 2 (.slice (some ⟨wr.heap.size,0,none⟩) 1 1) 1 (Ii (f i)):=
    ⟨rfl,.inr ⟨wr.heap.size,1,#[.string ⟨(f i).k.toArray⟩,.slice (f i).a (f i).l (f i).c],rfl,hs,dO _ _,ae,bH,rfl,rfl⟩⟩
   simp only[ry,qY.d]at c0 c1;clear hp hq hb;generalize BB:wr.alloc (.cells #[.string ⟨(f i).k.toArray⟩,.slice (f i).a (f i).l (f i).c] 44)=w1 at*
   go_wp2_with(first
    |(at_builtin;refine dG _ rfl _ _ 53 rfl h 9 i0 (.string ⟨#[]⟩) 1 16 underlying53 Af x_ w_ wH rfl au _ _ _ rfl (EJ.alloc _) ⟨w1.heap.size,0,none⟩ 1 1 [.string ⟨(f i).k.toArray⟩] rfl rfl (BH _ _ _) (aiG _) bH ae az ?_;intro v2 w2 CJ tq _;have hq2:=Oe EJ hq1 au ((aA w1.heap.size w1).alloc (ak _) _) tq;have nb2:=Oe EJ nb au ((aA w1.heap.size w1).alloc (ak _) _) tq;have sZ:=t_.trans (PW EJ x9 ((aA w1.heap.size w1).alloc (ak _) _) tq (ak _));have zD:h<=w2.heap.size:=hh▸sZ.size;have e1':w2.cell? ⟨wr.heap.size,1,none⟩=some (.slice (f i).a (f i).l (f i).c):=nb2.cellAt 1 ae;clear tq EJ hq1 nb t_ e0 e1 c0 c1)
    |(at_builtin;refine dG _ rfl _ _ 22 rfl h 3 i1 (.int .i64 0) 1 8 underlying22 Lc hy0 hy1 hy2 rfl au _ _ _ rfl (hq2.alloc _) ⟨w2.heap.size,0,none⟩ 1 1 [.int .i64 ((f i).l:Int)] rfl rfl (BH _ _ _) (aiH _) bH ae az ?_;intro v3 w3 hq3 tq _;have hp3:=Oe hq2 CJ au ((aA w2.heap.size w2).alloc (ak _) _) tq;have vK:=sZ.trans (PW hq2 zD ((aA w2.heap.size w2).alloc (ak _) _) tq (ak _));clear tq hq2 CJ sZ e1'))
   go_roundw
   case rel=>exact⟨i+1,ae,aW,by rw[aaV];exact hp3,by rw[aaW];exact hq3,vK,hh▸vK.size⟩
   case measure=>simp[intOf];omega
  .obtain rfl:i=n:=ae;have GH:¬((i:Int)<(i:Int)):=ae;go_wp2;go_ret2;exact⟨auY,_,_,rfl,by rw[hh];exact hp,by rw[hh];exact hq⟩
theorem af4(b o j:Nat):(⟨b,o,none⟩:Addr).add j=⟨b,o+j,none⟩:=by
 simp only[Addr.add];split
 .rename_i h;subst h;rfl
 .rfl
def yR(w:World)(e:qY)(d:List UInt8):Prop:=d.length=e.l/\((e.a=none/\e.l=0/\e.c=0)\/∃ad:Addr,e.a=some ad/\∀j u,(r_ d)[j]?=some u->w.cell? (ad.add j)=some u)
theorem yR.below{w w':World}{e:qY}{d:List UInt8}{B:Nat}(h:yR w e d)(hb:Below B w w')(hB:w.heap.size<=B):yR w' e d:=by
 refine⟨h.1,?_⟩;rcases h.2 with h2|⟨ad,h2,h4⟩
 .exact .inl h2
 .exact .inr ⟨ad,h2,λj u hj=>(hb.cell (p:=ad.add j) (aK (rM (h4 j u hj)) hB)).trans (h4 j u hj)⟩
def rC(D:Nat->List UInt8):Nat->List UInt8
 |0=>[]
 |n+1=>rC D n++D n
theorem aiJ(l:List UInt8):∀u∈r_ l,u.oneCell'=true:=by intro u hu;simp[r_]at hu;obtain⟨_,_,rfl⟩:=hu;rfl
theorem aiK(D:Nat->List UInt8){i n:Nat}(h:i<=n):(rC D i).length<=(rC D n).length:=by
 induction n with
 |zero=>obtain rfl:i=0:=by omega
        exact ak _
 |succ n ih=>
  by_cases e:i=n+1
  .rw[e];exact ak _
  .have:=ih ae;simp only[rC,aS];omega
theorem aiL(n cap:Nat)(bo:Option Addr)(f:Nat->qY)(D:Nat->List UInt8)(w:World)(hn:n<=1048576)(hB:BC w bo n f)(hD:∀i,i<n->yR w (f i) (D i))(ht:(rC D n).length<=1048576):
  Calls prog 30 #[.slice bo n cap] w λr w'=>Below w.heap.size w w'/\∃v,r=.returned v/\rG w.heap.size w' v (rC D n):=by
 obtain⟨i0,Af,x_,w_,wH⟩:=bG Dc;have p0:w.ownsRow w.heap.size 5 1 (.slice none 0 0) (rC D 0).length (r_ (rC D 0)):=dh _ _ _ _;go_enter func30,ntmps30;go_wp2;generalize hh:w.heap.size=h at*
 go_loopw [3,8] (λva vi wr=>∃(i:Nat),i<=n/\vi=.int .i64 ((i:Nat):Int)/\wr.ownsRow h 5 1 va (rC D i).length (r_ (rC D i))/\Below h w wr/\h<=wr.heap.size) (λ_ vi _=>n-(intOf vi).toNat)
 case atStart=>exact⟨0,ae,rfl,p0,aA _ _,ae⟩
 case round=>
  clear p0;obtain⟨i,hi,rfl,hp,hb,hs⟩:=hrel;by_cases qE:i<n
  .have Ag:(i:Int)<(n:Int):=ae;obtain⟨b,o,rfl,Ns,hcell⟩:=(hB.below hb ae).here ae;obtain⟨c0,c1⟩:=hcell i qE;have hd:=(hD i qE).below hb ae
   have hlen:(rC D i).length+(D i).length<=1048576:=by have:=aiK D (i:=i+1) (n:=n) ae;simp only[rC,aS]at this;omega
   clear hcell;obtain⟨e0,e1⟩:=Jj wr (f i);have EJ:=hp.alloc (.cells #[.string ⟨(f i).k.toArray⟩,.slice (f i).a (f i).l (f i).c] 44);have t_:=hb.alloc ae (.cells #[.string ⟨(f i).k.toArray⟩,.slice (f i).a (f i).l (f i).c] 44);have hd1:=hd.below ((aA wr.heap.size wr).alloc (ak _) (.cells #[.string ⟨(f i).k.toArray⟩,.slice (f i).a (f i).l (f i).c] 44)) (ak _);have x9:h<=(wr.alloc (.cells #[.string ⟨(f i).k.toArray⟩,.slice (f i).a (f i).l (f i).c] 44)).heap.size:=az;simp only[ry,qY.d]at c0 c1;clear hp hb hd;rcases hd1 with⟨hdl,hd1⟩;rcases hd1 with⟨ea,el,ec⟩|⟨ad,ea,hcd⟩
   .have amN:D i=[]:=kN.1 ae;rw[ea,el,ec]at EJ t_ x9 e0 e1 c1;clear hdl;clear ea el ec
    go_wp2_with(at_builtin;go_loud (refine wpList_append_own_none rfl _ _ 34 rfl h 5 i0 1 underlying34 Af _ _ _ rfl EJ rfl ?_))
    go_roundw
    case rel=>exact⟨i+1,ae,aW,by simp only[rC,amN,dD];exact EJ,t_,x9⟩
    case measure=>simp[intOf];omega
   .rw[ea]at EJ t_ x9 e0 e1 c1 hcd;clear ea;generalize BB:wr.alloc (.cells #[.string ⟨(f i).k.toArray⟩,.slice (some ad) (f i).l (f i).c] 44)=w1 at*
    go_wp2_with(at_builtin;go_loud (refine dG _ rfl _ _ 34 rfl h 5 i0 (.int .u8 0) 1 1 underlying34 Af x_ w_ wH rfl au _ _ _ rfl EJ ad (f i).l (f i).c (r_ (D i)) rfl (by simp[r_];omega) (λj u hj=>hcd j u hj) (aiJ _) bH ae x9 ?_;intro v2 w2 CJ tq _))
    have sZ:=t_.trans (PW EJ x9 (aA _ _) tq (ak _));clear tq EJ t_
    go_roundw
    case rel=>exact⟨i+1,ae,aW,by rw[show(rC D (i+1)).length=(rC D i).length+(f i).l by simp[rC,hdl],show r_ (rC D (i+1))=r_ (rC D i)++r_ (D i)by simp[rC,r_]];exact CJ,sZ,hh▸sZ.size⟩
    case measure=>simp[intOf];omega
  .obtain rfl:i=n:=ae;have GH:¬((i:Int)<(i:Int)):=ae;go_wp2;go_ret;exact⟨hb,_,rfl,hp⟩
