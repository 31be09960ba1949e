import Derived.Test.YtlghjjennhpjeaaGreatDoorEnE
set_option maxHeartbeats 8000000
set_option maxRecDepth 100000
namespace Go.Proofs.Y
open Go.Proofs.Tryz
open Go.RowKit Go.Deep Go.Hp
def ajb(n:Nat)(f:Nat->rU)(w:ah)(r:Ending)(w':ah):Prop:=
 Below w.heap.size w w'/\∃f' v,r=.returned v/\qX n f f'/\Om n f'/\w'.ownsRow w.heap.size 63 2 v n (tY n f')
theorem BC.take{w:ah}{bo:aW}{n m:Nat}{f:Nat->rU}(h:BC w bo n f)(hm:m<=n):BC w bo m f:=⟨λh0=>by obtain⟨b,o,h1,h2,h3⟩:=h.here ag;exact⟨b,o,h1,h2,λi hi=>h3 i ag⟩⟩
theorem BC.drop{w:ah}{b o:Nat}{n m:Nat}{f:Nat->rU}(h:BC w (some ⟨b,o,none⟩) (m+n) f)(hn:0<n):BC w (some ⟨b,o+m*2,none⟩) n (λi=>f (m+i)):=⟨λ_=>by obtain⟨b',o',h1,h2,h3⟩:=h.here ag;cases h1;refine⟨b,o+m*2,rfl,h2,λi hi=>?_⟩;have:=h3 (m+i) ag;rw[show o+(m+i)*2=o+m*2+i*2 by omega]at this;exact this⟩
theorem BC.Zd{w:ah}{B n:Nat}{v:ai}{f:Nat->rU}(h:w.ownsRow B 63 2 v n (tY n f)):∃bo cap,v=.slice bo n cap/\n<=cap/\(bo=none->cap=0)/\BC w bo n f:=by
 rcases h.2 with⟨rfl,rfl⟩|⟨g,cap,cur,rfl,h2,h3,h4,_⟩
 .exact⟨none,0,rfl,ay _,λ_=>rfl,⟨λh0=>absurd h0 ag⟩⟩
 .refine⟨_,cap,rfl,h4,(λe=>nomatch e),⟨λ_=>⟨g,0,rfl,(h.lt g rfl).2,λi hi=>?_⟩⟩⟩;have q0:=h.cellAt (i*2) ag;have q1:=h.cellAt (i*2+1) ag;rw[show i*2=i*2+0 from rfl,BA n f i 0 hi ag]at q0;rw[BA n f i 1 hi ag]at q1;rw[bJ];exact⟨q0,q1⟩
theorem BC.news{w:ah}{ad:Addr}{n:Nat}{f:Nat->rU}(h:BC w (some ad) n f):∀j u,(tY n f)[j]?=some u->w.cell? (ad.add j)=some u:=by
 intro j u hj
 have hl:j<n*2:=by
  rcases bK j (n*2)with q|q
  .exact q
  .rw[h_ avj]at hj;cases hj
 obtain⟨b,o,e,_,hc⟩:=h.here ag;cases e;have hd:j=j/2*2+j%2:=ag;rw[hd,BA n f (j/2) (j%2) ag ag]at hj;rw[agv,hd];have q:=hc (j/2) ag;have:j%2=0\/j%2=1:=ag;rcases this with e|e
 .rw[e]at hj⊢;cases hj;exact q.1
 .rw[e]at hj⊢;cases hj;exact q.2
theorem NI(n:Nat)(out:Nat->rU)(e:rU):tY (n+1) (Hp.snoc out n e)=tY n out++MH e:=by rw[yD,Fp (g:=out) λi hi=>by unfold Hp.snoc;rw[au ag]];unfold Hp.snoc;rw[ax rfl]
theorem agw(a b:Nat)(f:Nat->rU):tY (a+b) f=tY a f++tY b (λx=>f (a+x)):=by
 induction b with
 |zero=>simp[tY]
 |succ b ih=>rw[<-dO,yD,ih,yD,kX]
theorem abf(h j m:Nat)(hj:j<=m)(out R:Nat->rU):tY (h+j) out++tY (m-j) (λx=>R (j+x))=tY (h+m) (λx=>if x<h+j then out x else R (x-h)):=by
 rw[show h+m=h+j+(m-j)by omega];have e1:tY (h+j) out=tY (h+j) (λx=>if x<h+j then out x else R (x-h)):=Fp λx hx=>(ax hx).symm
 have e2:tY (m-j) (λx=>R (j+x))=tY (m-j) (λx=>(λx=>if x<h+j then out x else R (x-h)) (h+j+x)):=Fp λx hx=>by
  show R (j+x)=if h+j+x<h+j then out (h+j+x)else R (h+j+x-h)
  rw[au ag]
  congr 1
  omega
 rw[agw (h+j) (m-j),<-e1,<-e2]
theorem XK(n:Nat)(f:Nat->rU):∀u∈tY n f,u.oneCell'=true:=by intro u hu;unfold tY at hu;rw[List.mem_flatMap]at hu;obtain⟨i,_,hi⟩:=hu;exact Lj _ u hi
theorem adm(n:Nat):∀(cap:Nat)(bo:aW)(f:Nat->rU)(w:ah)(_:n<=1048576)(_:n<=cap)(_:bo=none->cap=0)(_:BC w bo n f),
  Calls prog 64 #[.slice bo n cap] w λr w'=>ajb n f w r w':=by
 obtain⟨i0,zo,xY,wW,vV⟩:=cO Tryz.UJ
 induction n using Nat.strongRecOn with
 |ind n ih=>
  intro cap bo f w hn uF hbo hB;by_cases h2:n<2
  .have h2':(n:Int)<2:=ag;have hS:Om n f:=λi hi=>absurd hi ag
   rcases bo with _|⟨b,o,p⟩
   .obtain rfl:=hbo rfl;obtain rfl:n=0:=ag;go_enter func64,ntmps64
    go_wp2_with(at_builtin;refine wpList_append_own_none rfl _ _ 25 rfl w.heap.size 63 i0 2 underlying25 zo _ _ _ rfl (bY _ _ _ _) rfl ?_)
    go_ret;exact⟨aO _ _,f,_,rfl,qX.refl _ _,hS,bY _ _ _ _⟩
   .have FK:=hB.news;go_enter func64,ntmps64
    go_wp2_with(at_builtin;refine di _ rfl _ _ 25 rfl w.heap.size 63 i0 (.agg #[.string ⟨#[]⟩,.slice none 0 0]) 2 40 underlying25 zo xY wW vV rfl aB _ _ _ rfl (bY _ _ _ _) ⟨b,o,p⟩ n cap (tY n f) rfl (y8 _ _) FK (XK _ _) bT ag (ay _) ?_;intro v' w' tZ qA _)
    go_ret;exact⟨(aO _ _).grown qA (ay _) (λk hk=>by cases hk),f,_,rfl,qX.refl _ _,hS,by simpa using tZ⟩
  .obtain⟨h,m,VQ,hh,hm0⟩:∃h m,n=h+m/\h=n/2/\0<m:=⟨n/2,n-n/2,ag,rfl,ag⟩;have hh0:0<h:=ag;obtain⟨b,o,rfl,Jf,_⟩:=hB.here ag;have h2':¬((n:Int)<2):=ag;have hq1:(n:Int)/2=(h:Int):=ag;have Yy:Int.tdiv (n:Int) 2=(h:Int):=by rw[av4 ag];exact hq1
   have hhn:h<n:=ag;have hhc:(h:Int)<=(cap:Int):=ag;have K1:=ih h ag cap (some ⟨b,o,none⟩) f w ag ag (λe=>nomatch e) (hB.take ag);have HN:Hid (n=h+m):=VQ;clear VQ hh;have ih':=@ih;clear ih;go_enter func64,ntmps64;have Nj:∀w1,Below w.heap.size w w1->BC w1 (some ⟨b,o+h*2,none⟩) m (λi=>f (h+i)):=λw1 b1=>BC.drop (by rw[<-HN.out];exact hB.below b1 (ay _)) hm0
   have hmn:m<n:=avO;have hmc:m<=cap-h:=avO;have F_:(h:Int)<=(n:Int):=ag;have hcc:¬(cap=h):=ag;have hnh:n-h=m:=avO
   go_wp2_with(first
    |(go_at_call 64;(with_reducible refine K1.mono ?_);rintro r w1 ⟨b1,L,vL,rfl,RL,SL,OL⟩;have K2:=ih' m hmn (cap-h) (some ⟨b,o+h*2,none⟩) (λi=>f (h+i)) w1 ag hmc (λe=>nomatch e) (Nj w1 b1);clear K1)
    |(go_at_call 64;(with_reducible refine K2.mono ?_);rintro r w2 ⟨b2,R,vR,rfl,RR,SR,OR⟩;clear K2))
   obtain⟨gL,cL,rfl,hgL,_⟩:=OL.form hh0;obtain⟨gR,cR,rfl,hgR,ar4⟩:=OR.form hm0
   have OL2:∀w3,Below w2.heap.size w2 w3->∀i,i<h->w3.cell? ⟨gL,i*2,none⟩=some (.string ⟨(L i).k.toArray⟩)/\w3.cell? ⟨gL,i*2+1,none⟩=some (.slice (L i).a (L i).l (L i).c):=λw3 b3 i hi=>by have h1:=OL.cellAt (i*2) ag;have h2:=OL.cellAt (i*2+1) ag;rw[show i*2=i*2+0 from rfl,BA h L i 0 hi ag]at h1;rw[BA h L i 1 hi ag]at h2;have qB:=(OL.lt gL rfl).2;have Ku:=b2.size;exact⟨((b3.cell (p:=⟨gL,_,none⟩) (show gL<w2.heap.size by omega)).trans (b2.cell (p:=⟨gL,_,none⟩) qB)).trans h1,((b3.cell (p:=⟨gL,_,none⟩) (show gL<w2.heap.size by omega)).trans (b2.cell (p:=⟨gL,_,none⟩) qB)).trans h2⟩
   have OR2:∀w3,Below w2.heap.size w2 w3->∀i,i<m->w3.cell? ⟨gR,i*2,none⟩=some (.string ⟨(R i).k.toArray⟩)/\w3.cell? ⟨gR,i*2+1,none⟩=some (.slice (R i).a (R i).l (R i).c):=λw3 b3 i hi=>by have h1:=OR.cellAt (i*2) ag;have h2:=OR.cellAt (i*2+1) ag;rw[show i*2=i*2+0 from rfl,BA m R i 0 hi ag]at h1;rw[BA m R i 1 hi ag]at h2;have qB:=(OR.lt gR rfl).2;exact⟨(b3.cell (p:=⟨gR,_,none⟩) qB).trans h1,(b3.cell (p:=⟨gR,_,none⟩) qB).trans h2⟩
   have hcR:m<=cR/\cR<=9223372036854775807:=by
    rcases OR.2 with⟨q,_⟩|⟨g,c,cur,q,_,_,q4,q5,_⟩
    .cases q
    .cases q;exact⟨q4,q5⟩
   have M0:=MS.start RL RR;have bB:Below w.heap.size w w2:=b1.trans (b2.mono b1.size);have hBB:=bB.size;have p0:w2.ownsRow w2.heap.size 63 2 (.slice none 0 0) (0+0) (tY (0+0) f):=bY _ _ _ _;clear OL OR hgL hgR ar4 hB Nj ih' RL RR b1 b2;generalize hBs:w2.heap.size=B at*
   go_loopw [3,5,6] (λvs vb vi wr=>∃(i j oR c':Nat)(out:Nat->rU),i<=h/\j<=m/\vi=.int .i64 ((i:Nat):Int)/\vb=.slice (some ⟨gR,oR,none⟩) (m-j) c'/\m-j<=c'/\c'<=9223372036854775807/\(j<m->oR=j*2)/\MS h m f L R i j out/\wr.ownsRow B 63 2 vs (i+j) (tY (i+j) out)/\Below B w2 wr) (λ_ _ vi _=>h-(intOf vi).toNat)
   case atStart=>exact⟨0,0,0,cR,f,ag,ag,rfl,aA,ag,ag,λ_=>ag,M0,p0,aO _ _⟩
   case round=>
    clear M0 p0;obtain⟨i,j,oR,c',out,hi,hj,rfl,rfl,V5,hc2,ho,M,vO,hb⟩:=hrel;by_cases qB:i<h
    .have xZ:(i:Int)<(h:Int):=ag;have hLi:(i:Int)<(h:Int):=xZ;go_wp2
     go_loopw [3,5] (λvs vb wr=>∃(j oR c':Nat)(out:Nat->rU),j<=m/\vb=.slice (some ⟨gR,oR,none⟩) (m-j) c'/\m-j<=c'/\c'<=9223372036854775807/\(j<m->oR=j*2)/\MS h m f L R i j out/\wr.ownsRow B 63 2 vs (i+j) (tY (i+j) out)/\Below B w2 wr) (λ_ vb _=>match vb with| .slice _ l _=>l|_=>0)
     case atStart=>exact⟨j,oR,c',out,hj,rfl,V5,hc2,ho,M,vO,hb⟩
     case round=>
      obtain⟨j,oR,c',out,hj,rfl,V5,hc2,ho,M,vO,hb⟩:=hrel;have hs:B<=wr.heap.size:=hBs▸hb.size;obtain⟨cl0,cl1⟩:=OL2 wr hb i qB;have ami:=HN.out;have hsum:i+j+1<=1048576:=ag;clear ami;rcases bK j m with hjm|hjm
      .obtain rfl:=ho hjm;obtain⟨q,hq⟩:∃q,m-j=q+1:=⟨m-j-1,ag⟩;obtain⟨cr0,cr1⟩:=OR2 wr hb j hjm;have hqp:(0:Int)<(q:Int)+1:=ag;have HQ:Hid (m-j=q+1):=hq;rw[hq]at V5⊢;clear hq;rcases ahB:Hp.lt (R j).k (L i).k with _|_
       .have HC:=ahB;simp only[Hp.lt]at ahB;go_wp2
        go_quiet (fail)
        have A8:=below_drewN hb nq;have tZ:(wr.drewN nq).ownsRow B 63 2 u3 (i+j) (tY (i+j) out):=vO;have xk:B<=(wr.drewN nq).heap.size:=hs;replace cl0:(wr.drewN nq).cell? ⟨gL,i*2,none⟩=some (.string ⟨(L i).k.toArray⟩):=cl0;replace cl1:(wr.drewN nq).cell? ⟨gL,i*2+1,none⟩=some (.slice (L i).a (L i).l (L i).c):=cl1;clear cr0 cr1;clear hb vO hs;generalize wr.drewN nq=W at*
        go_wp2_with(at_builtin;refine di _ rfl _ _ 25 rfl B 63 i0 (.agg #[.string ⟨#[]⟩,.slice none 0 0]) 2 40 underlying25 zo xY wW vV rfl aB _ _ _ rfl (tZ.alloc _) ⟨W.heap.size,0,none⟩ 1 1 (MH (L i)) rfl rfl (cell_two_new _ _ _ _) (Lj _) bT ag aJ ?_;intro v' w5 Ae qA _)
        have hn5:w5.ownsRow B 63 2 v' (i+1+j) (tY (i+1+j) (snoc out (i+j) (L i))):=by rw[show i+1+j=i+j+1 by omega,NI];exact Ae
        have b5:=A8.trans (tJ tZ xk ((aO _ _).alloc (ay _) _) qA (ay _));clear Ae qA
        go_roundw
        case rel=>exact⟨i+1,j,j*2,c',_,ag,hj,aV,by rw[HQ.out],by rw[HQ.out];exact V5,hc2,λ_=>rfl,M.left qB hj SL SR (λ_=>HC),hn5,b5⟩
        case measure=>simp[intOf];omega
       .have HC:=ahB;simp only[Hp.lt]at ahB;have arz:(1:Int)<=(q:Int)+1:=ag;have atv:(q:Int)+1<=(c':Int):=ag
        obtain⟨oN,hoN,hif⟩:∃oN,(j+1<m->oN=(j+1)*2)/\(if c'=1 then some (⟨gR,j*2,none⟩:Addr)else some ⟨gR,j*2+2,none⟩)=some ⟨gR,oN,none⟩:=by
         have:=HQ.out;by_cases e:c'=1
         .exact⟨j*2,λ_=>ag,by rw[ax e]⟩
         .exact⟨j*2+2,λ_=>ag,by rw[au e]⟩
        go_wp2
        go_quiet (fail)
        have A8:=below_drewN hb nq;have tZ:(wr.drewN nq).ownsRow B 63 2 u3 (i+j) (tY (i+j) out):=vO;have xk:B<=(wr.drewN nq).heap.size:=hs;replace cl0:(wr.drewN nq).cell? ⟨gL,i*2,none⟩=some (.string ⟨(L i).k.toArray⟩):=cl0;replace cl1:(wr.drewN nq).cell? ⟨gL,i*2+1,none⟩=some (.slice (L i).a (L i).l (L i).c):=cl1;replace cr0:(wr.drewN nq).cell? ⟨gR,j*2,none⟩=some (.string ⟨(R j).k.toArray⟩):=cr0;replace cr1:(wr.drewN nq).cell? ⟨gR,j*2+1,none⟩=some (.slice (R j).a (R j).l (R j).c):=cr1;clear cl0 cl1;clear hb vO hs;generalize wr.drewN nq=W at*
        go_wp2_with(at_builtin;refine di _ rfl _ _ 25 rfl B 63 i0 (.agg #[.string ⟨#[]⟩,.slice none 0 0]) 2 40 underlying25 zo xY wW vV rfl aB _ _ _ rfl (tZ.alloc _) ⟨W.heap.size,0,none⟩ 1 1 (MH (R j)) rfl rfl (cell_two_new _ _ _ _) (Lj _) bT ag aJ ?_;intro v' w5 Ae qA _;have b5:=A8.trans (tJ tZ xk ((aO _ _).alloc (ay _) _) qA (ay _));clear qA)
        have hn5:w5.ownsRow B 63 2 v' (i+(j+1)) (tY (i+(j+1)) (snoc out (i+j) (R j))):=by rw[show i+(j+1)=i+j+1 by omega,NI];exact Ae
        go_roundw
        case rel=>exact⟨j+1,oN,c'-1,_,ag,by rw[show m-(j+1)=q by have:=HQ.out;omega],by have:=HQ.out;omega,ag,hoN,M.right qB hjm SL SR (Hp.le_of_lt HC),hn5,b5⟩
        case measure=>simp
      .have hmj:m-j=0:=ag;rw[hmj]at V5⊢;have HMJ:Hid (m-j=0):=hmj;clear hmj ho;go_wp2
       go_quiet (fail)
       have A8:=below_drewN hb nq;have tZ:(wr.drewN nq).ownsRow B 63 2 u3 (i+j) (tY (i+j) out):=vO;have xk:B<=(wr.drewN nq).heap.size:=hs;replace cl0:(wr.drewN nq).cell? ⟨gL,i*2,none⟩=some (.string ⟨(L i).k.toArray⟩):=cl0;replace cl1:(wr.drewN nq).cell? ⟨gL,i*2+1,none⟩=some (.slice (L i).a (L i).l (L i).c):=cl1;clear hb vO hs;generalize wr.drewN nq=W at*
       go_wp2_with(at_builtin;refine di _ rfl _ _ 25 rfl B 63 i0 (.agg #[.string ⟨#[]⟩,.slice none 0 0]) 2 40 underlying25 zo xY wW vV rfl aB _ _ _ rfl (tZ.alloc _) ⟨W.heap.size,0,none⟩ 1 1 (MH (L i)) rfl rfl (cell_two_new _ _ _ _) (Lj _) bT ag aJ ?_;intro v' w5 Ae qA _)
       have hn5:w5.ownsRow B 63 2 v' (i+1+j) (tY (i+1+j) (snoc out (i+j) (L i))):=by rw[show i+1+j=i+j+1 by omega,NI];exact Ae
       have b5:=A8.trans (tJ tZ xk ((aO _ _).alloc (ay _) _) qA (ay _));clear Ae qA
       go_roundw
       case rel=>exact⟨i+1,j,oR,c',_,ag,hj,aV,by rw[HMJ.out],ag,hc2,λh=>absurd h ag,M.left qB hj SL SR (λh=>absurd h ag),hn5,b5⟩
       case measure=>simp[intOf];omega
    .have C_:i=h:=ag;rw[C_]at M vO⊢;clear qB hi C_;obtain⟨F1,F2⟩:=M.done hj SR;have E5:¬((h:Int)<(h:Int)):=ag;have hs:B<=wr.heap.size:=hBs▸hb.size
     have FK:∀k u,(tY (m-j) (λx=>R (j+x)))[k]?=some u->wr.cell? ((⟨gR,oR,none⟩:Addr).add k)=some u:=by
      refine BC.news ⟨λh0=>⟨gR,oR,rfl,?_,λx hx=>?_⟩⟩
      .have:=rY (OR2 wr hb 0 hm0).1;exact this
      .have:=OR2 wr hb (j+x) ag;rw[ho ag,show j*2+x*2=(j+x)*2 by omega];exact this
     have HNo:=HN.out;have hsum:h+j+(m-j)=n:=ag
     have rq:tY (h+j) out++tY (m-j) (λx=>R (j+x))=tY n (λx=>if x<h+j then out x else R (x-h)):=by rw[HNo];exact abf h j m hj out R
     have HB2:Hid _:=rq;have HS:Hid _:=hsum;rw[<-HNo]at F1 F2;clear rq HNo hsum M ho
     go_wp2_with(at_builtin;refine di _ rfl _ _ 25 rfl B 63 i0 (.agg #[.string ⟨#[]⟩,.slice none 0 0]) 2 40 underlying25 zo xY wW vV rfl aB _ _ _ rfl vO ⟨gR,oR,none⟩ (m-j) c' (tY (m-j) (λx=>R (j+x))) rfl (y8 _ _) FK (XK _ _) (by have:=HS.out;unfold maxLen;omega) (by have:=HS.out;omega) hs ?_;intro v' w5 Ae qA _)
     go_ret;rw[HS.out,HB2.out]at Ae;exact⟨bB.trans ((hb.trans (tJ vO hs (aO _ _) qA (ay _))).mono ag),_,_,rfl,F1,F2,Ae.mono ag⟩
def A7(r x:Nat->Nat):Nat->Nat
 |0=>0
 |j+1=>A7 r x j^^^mul (r j) (x j)
theorem OM{r x:Nat->Nat}(hr:∀j,r j<256):∀n,A7 r x n<256
 |0=>by simp[A7]
 |n+1=>gY (n:=8) (OM hr n) (mul_lt (hr n))
theorem adn(w:ah)(j n:Nat):(w.drewN j).drewN n=w.drewN (j+n):=awl
structure Cls(w:ah)(k L bP:Nat)(a:Nat->aW)(bl cp:Nat->Nat)(x:Nat->Nat->Nat):Prop where
 qC:∀j,j<k->w.cell? ⟨bP,j,none⟩=some (.slice (a j) L (cp j))
 at_:∀j m,j<k->m<L->a j=some ⟨bl j,0,none⟩/\w.cell? ⟨bl j,m,none⟩=some (.int .u8 ((x j m:Nat):Int))
theorem ahC(k L m br cr bP cP:Nat)(r:Nat->Nat)(a:Nat->aW)(bl cp:Nat->Nat)(x:Nat->Nat->Nat)(w:ah)(hr:∀j,j<k->w.cell? ⟨br,j,none⟩=some (.int .u8 ((r j:Nat):Int)))(hr8:∀j,r j<256)(hx8:∀j m,x j m<256)(hC:Cls w k L bP a bl cp x)(hm:m<L)(hk:k<=128)(_hL:L<=1048576):
  Calls prog 65 #[.slice (some ⟨br,0,none⟩) k cr,.slice (some ⟨bP,0,none⟩) k cP,.int .i64 ((m:Nat):Int)] w λe w'=>e=.returned (.int .u8 ((A7 r (λj=>x j m) k:Nat):Int))/\∃q,w'=w.drewN q:=by
 go_enter func65,ntmps65;go_wp2
 go_loopw [7,8] (λvs vi wr=>∃i q:Nat,i<=k/\vi=.int .i64 ((i:Nat):Int)/\vs=.int .u8 ((A7 r (λj=>x j m) i:Nat):Int)/\wr=w.drewN q) (λ_ vi _=>k-(intOf vi).toNat)
 case atStart=>exact⟨0,0,ag,rfl,rfl,rfl⟩
 case round=>
  obtain⟨i,q,hi,rfl,rfl,hW⟩:=hrel;by_cases qB:i<k
  .have xZ:(i:Int)<(k:Int):=ag;have Tf:(m:Int)<(L:Int):=ag;have c0:wr.cell? ⟨br,i,none⟩=some (.int .u8 ((r i:Nat):Int)):=by rw[hW];exact hr i qB
   have c1:wr.cell? ⟨bP,i,none⟩=some (.slice (a i) L (cp i)):=by rw[hW];exact hC.qC i qB
   obtain⟨ea,c2'⟩:=hC.at_ i m qB hm;rw[ea]at c1;have c2:wr.cell? ⟨bl i,m,none⟩=some (.int .u8 ((x i m:Nat):Int)):=by rw[hW];exact c2'
   have km:=amj (r i) (x i m) (hr8 i) (hx8 i m);have hd:=OM (x:=λj=>x j m) hr8 i;have hml:=mul_lt (b:=x i m) (hr8 i);have qU:A7 r (λj=>x j m) (i+1)=A7 r (λj=>x j m) i^^^mul (r i) (x i m):=rfl;obtain⟨D1,e1⟩:∃D,A7 r (λj=>x j m) i=D:=⟨_,rfl⟩;obtain⟨M1,e2⟩:∃D,mul (r i) (x i m)=D:=⟨_,rfl⟩;rw[e2]at km hml qU;rw[e1]at hd qU;have HS:Hid _:=qU;have HW:Hid (wr=w.drewN q):=hW;clear qU c2' ea hW;rw[e1];clear e1 e2;go_wp2
   go_quiet ((go_at_call 38;exact Calls.quiet_of_same (km _)))
   have hxo:=u8_xor_nat D1 M1 hd hml;go_wp2
   go_roundw
   case rel=>exact⟨i+1,q+nq,ag,aV,by rw[HS.out,hxo],by rw[HW.out,adn]⟩
   case measure=>simp[intOf];omega
  .obtain rfl:i=k:=ag;have E5:¬((i:Int)<(i:Int)):=ag;go_wp2;go_ret;exact⟨rfl,q,rfl⟩
theorem Cls.heap{w w':ah}{k L bP:Nat}{a:Nat->aW}{bl cp:Nat->Nat}{x:Nat->Nat->Nat}(h:Cls w k L bP a bl cp x)(hb:∀{b o:Nat}{u:ai},w.cell? ⟨b,o,none⟩=some u->w'.cell? ⟨b,o,none⟩=some u):Cls w' k L bP a bl cp x:=
 ⟨λj hj=>hb (h.qC j hj),λj m hj hm=>⟨(h.at_ j m hj hm).1,hb (h.at_ j m hj hm).2⟩⟩
theorem qK{w w':ah}{B:Nat}(h:Below B w w')(hB:w.heap.size<=B){b o:Nat}{u:ai}(hc:w.cell? ⟨b,o,none⟩=some u):w'.cell? ⟨b,o,none⟩=some u:=
 (h.cell (p:=⟨b,o,none⟩) (bH (rY hc) hB)).trans hc
def Be(n:Nat)(f:Nat->Nat):aK:=(List.range n).map λj=>.int .u8 ((f j:Nat):Int)
theorem U4(n:Nat)(f:Nat->Nat):Be (n+1) f=Be n f++[.int .u8 ((f n:Nat):Int)]:=by simp[Be,dP]
theorem agx(n:Nat)(f:Nat->Nat){i:Nat}(hi:i<n):(Be n f)[i]?=some (.int .u8 ((f i:Nat):Int)):=by simp[Be,hi]
theorem afO(k L br cr bP cP:Nat)(r:Nat->Nat)(a:Nat->aW)(bl cp:Nat->Nat)(x:Nat->Nat->Nat)(w:ah)(hr:∀j,j<k->w.cell? ⟨br,j,none⟩=some (.int .u8 ((r j:Nat):Int)))(hr8:∀j,r j<256)(hx8:∀j m,x j m<256)(hC:Cls w k L bP a bl cp x)(hk:k<=128)(hL:L<=1048576):
  Calls prog 40 #[.slice (some ⟨br,0,none⟩) k cr,.slice (some ⟨bP,0,none⟩) k cP,.int .i64 ((L:Nat):Int)] w λe w'=>∃v,e=.returned v/\w'.ownsRow w.heap.size 5 1 v L (Be L λm=>A7 r (λj=>x j m) k)/\Below w.heap.size w w':=by
 obtain⟨i0,zo,xY,wW,vV⟩:=cO Hy;have p0:w.ownsRow w.heap.size 5 1 (.slice none 0 0) 0 (Be 0 λm=>A7 r (λj=>x j m) k):=bY _ _ _ _;go_enter func40,ntmps40;go_wp2;generalize hh:w.heap.size=h at*
 go_loopw [7,8] (λvs vi wr=>∃m:Nat,m<=L/\vi=.int .i64 ((m:Nat):Int)/\wr.ownsRow h 5 1 vs m (Be m λm=>A7 r (λj=>x j m) k)/\Below h w wr) (λ_ vi _=>L-(intOf vi).toNat)
 case atStart=>exact⟨0,ag,rfl,p0,aO _ _⟩
 case round=>
  clear p0;obtain⟨m,hm,rfl,hp,hb⟩:=hrel;have hs:h<=wr.heap.size:=hh▸hb.size;by_cases qB:m<L
  .have xZ:(m:Int)<(L:Int):=ag;have up:∀{b o:Nat}{u:ai},w.cell? ⟨b,o,none⟩=some u->wr.cell? ⟨b,o,none⟩=some u:=λhc=>qK hb ag hc
   have kt:=ahC k L m br cr bP cP r a bl cp x wr (λj hj=>up (hr j hj)) hr8 hx8 (hC.heap up) qB hk hL;have qU:=U4 m λm=>A7 r (λj=>x j m) k
   generalize hD:A7 r (λj=>x j m) k=D at*;have HS:Hid _:=qU;clear qU up
   go_wp2_with(first
    |(go_at_call 65;(with_reducible refine kt.mono ?_);rintro e w1 ⟨rfl,q,hq⟩;have QI:w1.ownsRow h 5 1 u7 m (Be m λm=>A7 r (λj=>x j m) k):=(by rw[hq];exact hp);have tV:Below h w w1:=(by rw[hq];exact below_drewN hb q);have Ai:h<=w1.heap.size:=(by rw[hq];exact hs);clear hp hb hs hq kt)
    |(at_builtin;refine di _ rfl _ _ 24 rfl h 5 i0 (.int .u8 0) 1 1 underlying24 zo xY wW vV rfl aB _ _ _ rfl (QI.alloc _) ⟨w1.heap.size,0,none⟩ 1 1 [.int .u8 ((D:Nat):Int)] rfl rfl (uj _ _ _) (JG _) bT ag aJ ?_;intro v2 w2 BJ qA _;have rq:=tV.trans (tJ QI Ai ((aO w1.heap.size w1).alloc (ay _) _) qA (ay _));clear qA QI tV))
   go_roundw
   case rel=>exact⟨m+1,ag,aV,avC,rq⟩
   case measure=>simp[intOf];omega
  .obtain rfl:m=L:=ag;have E5:¬((m:Int)<(m:Int)):=ag;go_wp2;go_ret;exact⟨_,rfl,hp,hb⟩
end Go.Proofs.Y
namespace Go.Proofs.Y
open Go.Proofs.Tryz
open Go.RowKit Go.Deep
def Zl(zs:dM):Nat:=if Nb zs<=65536 then Nb zs else 65537
theorem ado(v:ai)(zs:dM)(hl:zs.length<=9223372036854775807)(hz:OY zs)(vV:∀i,zs.getD i 0<=9223372036854775807)(w:ah)(h:qP w v (Jp zs)):
  Calls prog 62 #[v] w λr w'=>r=.returned (.int .i64 (Zl zs:Nat))/\w'=w:=by
 obtain⟨ba,cap,rfl,uF,hc⟩:=h;rw[Q7]at uF⊢;go_enter func62,ntmps62;go_wp2
 go_loop [3,4] (λvt vi=>∃c t:Nat,c<=zs.length/\vi=.int .i64 (c:Int)/\vt=.int .i64 (t:Int)/\t<=65536/\Hid (Bg zs c=t)) (λ_ i=>zs.length-(intOf i).toNat)
 case atStart=>exact⟨0,0,ag,rfl,rfl,ag,rfl⟩
 case round=>
  obtain⟨c,t,LP,rfl,rfl,ht,H⟩:=hrel;by_cases qB:c<zs.length
  .obtain⟨b,off,rfl,hcell⟩:=hc c _ (ae4 qB);have hzc:=hz c qB;have hzd:=vV c;obtain⟨z,ez⟩:∃z:Nat,zs.getD c 0=(z:Int):=⟨(zs.getD c 0).toNat,ag⟩
   have H2:Hid (Bg zs (c+1)=t+z):=by show _=_;rw[NH,ez,H.out];simp
   have H3:Hid (Bg zs (c+1)<=Nb zs):=aa_ zs ag;rw[ez]at hcell hzd;clear ez hzc hc hz vV H;by_cases akW:65536<z
   .have HT:Hid (Zl zs=65537):=by
     exact ayL
    clear H2 H3;exact axl
   .by_cases arA:65536<t+z
    .have HT:Hid (Zl zs=65537):=by
      exact ayL
     clear H2 H3;exact axl
    .clear H3;go_wp2
     go_round
     case rel=>exact⟨c+1,t+z,ag,aV,aV,ag,H2⟩
     case measure=>simp[intOf];omega
  .have e:c=zs.length:=ag
   have HT:Hid (Zl zs=t):=by show _=_;have:=H.out;rw[e,Qj]at this;unfold Zl;rw[ax ag,this]
   clear H hc hz vV;exact ayg
theorem amk{k:Nat}(hk:1<=k)(t:Nat):rO k t=if t/k*k<t then t/k+1 else t/k:=by
 unfold rO;have h1:=lX t k;have h2:=jb t (show 0<k by omega);rw[fQ]at h1;split
 .rename_i h;rw[lV]
  .rw[iM];omega
  .rw[iM,iM];omega
 .rename_i h;rw[lV]
  .omega
  .rw[iM];omega
theorem QT(K:Int)(k:Nat)(hK:K=k)(hk:1<=k)(SY:k<=255)(v:ai)(zs:dM)(hl:zs.length<=9223372036854775807)(hz:OY zs)(vV:∀i,zs.getD i 0<=9223372036854775807)(ht:Nb zs<=65536)(w:ah)(h:qP w v (Jp zs)):
  Calls prog 32 #[.int .i64 K,v] w λr w'=>r=.returned (.int .i64 (rO k (Nb zs):Nat))/\w'=w:=by
 subst hK;have K1:=ado v zs hl hz vV w h;have HL:Hid _:=amk hk (Nb zs);have e:Zl zs=Nb zs:=by unfold Zl;rw[ax ht]
 rw[e]at K1;obtain⟨t,et⟩:∃t,Nb zs=t:=⟨_,rfl⟩;rw[et]at K1 HL ht⊢;clear et e;obtain⟨q,eq⟩:∃q,t/k=q:=⟨_,rfl⟩;have hq:q<=t:=eq▸nz _ _;have hqk:q*k<=t:=eq▸auN _ _;rw[eq]at HL
 have W1:Hid (wrap64 ((t:Int)/(k:Int))=(q:Int)):=by exact ayw
 have W2:Hid (wrap64 ((q:Int)*(k:Int))=((q*k:Nat):Int)):=by exact axV
 have W3:Hid (wrap64 ((q:Int)+1)=((q+1:Nat):Int)):=by exact ayI
 clear hq hqk eq ht;go_enter func32,ntmps32
 go_wp2_with(first|(go_at_call 62;refine K1.mono ?_;rintro r w' ⟨rfl,sH⟩;obtain rfl:=sH.symm))
 .exact ay3
 .exact ayT
end Go.Proofs.Y
namespace Go.Proofs.Y
open Go.Proofs.Tryz
open Go.RowKit Go.Deep Go.Hp
theorem Tryz.ae3:(prog.info? 24).map (λi=>(i.zero,i.size,i.bytes))=some (some (.slice none 0 0),1,24):=ak
theorem D_.grow{w w':ah}{e:rU}{d:aj}(h:D_ w e d)(_hs:w.heap.size<=w'.heap.size)(up:∀{b o:Nat}{u:ai},w.cell? ⟨b,o,none⟩=some u->w'.cell? ⟨b,o,none⟩=some u):D_ w' e d:=by
 refine⟨h.1,?_⟩;rcases h.2 with h2|⟨ad,h2,h4⟩
 .exact .inl h2
 .refine .inr ⟨ad,h2,λj u hj=>?_⟩;have h5:=h4 j u hj;have acz:=World.cell?_spot h5;generalize ad.add j=p at h5 acz⊢;obtain⟨b,o,sp⟩:=p;dsimp only at acz;subst acz;exact up h5
theorem BC.up{w w':ah}{bo:aW}{n:Nat}{f:Nat->rU}(h:BC w bo n f)(hs:w.heap.size<=w'.heap.size)(up:∀{b o:Nat}{u:ai},w.cell? ⟨b,o,none⟩=some u->w'.cell? ⟨b,o,none⟩=some u):BC w' bo n f:=⟨λhn=>by obtain⟨b,o,h1,h2,h3⟩:=h.here hn;exact⟨b,o,h1,bH h2 hs,λi hi=>⟨up (h3 i hi).1,up (h3 i hi).2⟩⟩⟩
def Ox(l:aj)(L j m:Nat):Nat:=sV l (j*L+m)
theorem cell_of_block{w:ah}{b m:Nat}{cur:aH}{t:aG}{u:ai}(h:w.heap[b]?=some (.cells cur t))(hc:cur[m]?=some u):w.cell? ⟨b,m,none⟩=some u:=by simp[World.cell?,h,hc]
theorem yT{w:ah}{B t n:Nat}{v:ai}{xs:aK}(h:w.ownsRow B t 1 v n xs):qP w v xs:=by
 have hl:=h.1;rcases h.2 with⟨rfl,rfl⟩|⟨g,cap,cur,rfl,h2,h3,h4,_⟩
 .have:xs=[]:=kW.1 ag;subst this;exact⟨none,0,rfl,ay _,λj u hj=>by simp at hj⟩
 .have e:n=xs.length:=ag;refine⟨some ⟨g,0,none⟩,cap,iV,ag,λj u hj=>⟨g,0,rfl,?_⟩⟩
  have Oc:j<n*1:=by have:=(fB.1 hj).1;omega
  rw[bJ,h.cellAt j Oc];exact hj
theorem P8(d:rU->aj)(f:Nat->rU):∀n,(∀i,i<n->(d (f i)).length=(f i).l)->Nb (uJ n f)=(qM (λj=>d (f j)) n).length
 |0,_=>rfl
 |n+1,h=>by
  have ih:=P8 d f n λi hi=>h i ag
  have e:uJ (n+1) f=uJ n f++[((f n).l:Int)]:=by simp[uJ,dP]
  rw[e];unfold Nb at*;simp only[iP,jd,je,kU,nD,auQ,qM,bM,h n ag,ih];simp
theorem aaq(n:Nat)(f:Nat->rU):OY (uJ n f):=λi hi=>by rw[Ea]at hi;simp[uJ,hi]
theorem aar(n:Nat)(f:Nat->rU)(h:∀i,i<n->(f i).l<=9223372036854775807)(i:Nat):(uJ n f).getD i 0<=9223372036854775807:=by
 by_cases hi:i<n
 .simp[uJ,hi];have:=h i hi;omega
 .simp[uJ,hi]
theorem aml{l:aj}{i:Nat}(h:l.length<=i):sV l i=0:=by unfold sV;rw[bG,h_ h];rfl
def U5(n:Nat)(a:Nat->aW)(L:Nat)(cp:Nat->Nat):aK:=(List.range n).map λj=>.slice (a j) L (cp j)
theorem agy(n:Nat)(a:Nat->aW)(L:Nat)(cp:Nat->Nat){j:Nat}(h:j<n):(U5 n a L cp)[j]?=some (.slice (a j) L (cp j)):=by simp[U5,h]
theorem adp(n:Nat)(a:Nat->aW)(L:Nat)(cp:Nat->Nat)(x:aW)(c:Nat):U5 (n+1) (λt=>if t=n then x else a t) L (λt=>if t=n then c else cp t)=U5 n a L cp++[.slice x L c]:=by
 unfold U5;rw[dP,iP]
 congr 1
 .apply g_;intro t ht;have:=jM.1 ht;dsimp only;rw[au ag,au ag]
 .simp
theorem aa7(x:aW)(l c:Nat):∀u∈[Value.slice x l c],u.oneCell'=true:=by exact axF
theorem ajc{w:ah}{B n:Nat}{v:ai}{f:Nat->Nat}(h:w.ownsRow B 5 1 v n (Be n f)):∃x c g,v=.slice x n c/\(0<n->∃cur:aH,x=some ⟨g,0,none⟩/\w.heap[g]?=some (.cells cur 5)/\∀m,m<n->cur[m]?=some (.int .u8 ((f m:Nat):Int))):=by
 rcases h.2 with⟨e,e2⟩|⟨g,cap,cur,rfl,h2,h3,h4,_⟩
 .exact⟨none,0,0,by rw[e,e2],λh0=>absurd h0 ag⟩
 .refine⟨_,_,g,rfl,λ_=>⟨cur,rfl,h3,λm hm=>?_⟩⟩;have:=h.cellAt m ag;rw[agx n f hm]at this;simpa[World.cell?,h3]using this
def lists(h:Nat)(wr:ah)(i:Nat)(f:Nat->rU)(d:rU->aj)(va vb vc:ai):Prop:=
 wr.ownsRow h 9 1 va i (uU (uf i f))/\wr.ownsRow h 3 1 vb i (Jp (uJ i f))/\wr.ownsRow h 5 1 vc (qM (λj=>d (f j)) i).length (rP (qM (λj=>d (f j)) i))
def abg(k n:Nat)(f:Nat->rU)(d:rU->aj)(w:ah)(r:Ending)(w':ah):Prop:=
 Below w.heap.size w w'/\∃(f':Nat->rU)(vN vS:ai)(bP cP:Nat)(a:Nat->aW)(bl cp:Nat->Nat),qX n f f'/\Om n f'/\r=.returned (.tuple #[.slice (some ⟨bP,0,none⟩) k cP,vN,vS])/\w'.ownsRow w.heap.size 9 1 vN n (uU (uf n f'))/\w'.ownsRow w.heap.size 3 1 vS n (Jp (uJ n f'))/\
  Cls w' k (rO k (qM (λj=>d (f' j)) n).length) bP a bl cp (Ox (qM (λj=>d (f' j)) n) (rO k (qM (λj=>d (f' j)) n).length))
theorem afN(k n cap:Nat)(bo:aW)(f:Nat->rU)(d:rU->aj)(w:ah)(V4:1<=k)(hk:k<=128)(hn:n<=1048576)(uF:n<=cap)(hbo:bo=none->cap=0)(hB:BC w bo n f)(hD:∀i,i<n->D_ w (f i) (d (f i)))
  (hT:∀f',qX n f f'->Om n f'->(qM (λj=>d (f' j)) n).length<=65536):
  Calls prog 39 #[.slice bo n cap,.int .i64 ((k:Nat):Int)] w λr w'=>abg k n f d w r w':=by
 obtain⟨i0,zo,xY,wW,vV⟩:=cO Tryz.aoO;obtain⟨i1,F_,hy0,TR,hy2⟩:=cO Tryz.aiO;obtain⟨i2,IG,zh,D5,N8⟩:=cO Hy;have ks:=adm n cap bo f w hn uF hbo hB
 have Ag:∀f',qX n f f'->∀i,i<n->D_ w (f' i) (d (f' i)):=λf' hR i hi=>by obtain⟨j,hj,e⟩:=hR.from hi;rw[e];exact hD j hj
 clear hD hB uF hbo;go_enter func39,ntmps39
 go_wp2_with(first|(go_at_call 64;(with_reducible refine ks.mono ?_);rintro r w1 ⟨b1,f',v,rfl,hR,hS,hO⟩))
 obtain⟨bo',anc,rfl,_,_,yQ⟩:=BC.Zd hO;have hD1:=λi hi=>(Ag f' hR i hi).below b1 (ay _)
 have ht:=hT f' hR hS;have hO':w1.heap.size≥w.heap.size:=b1.size;clear ks Ag hT hO;have p0:lists w1.heap.size w1 0 f' d (.slice none 0 0) (.slice none 0 0) (.slice none 0 0):=⟨bY _ _ _ _,bY _ _ _ _,bY _ _ _ _⟩;generalize hh:w1.heap.size=h at*
 go_loopw [8,9,10,11] (λva vb vc vi wr=>∃(i:Nat),i<=n/\vi=.int .i64 ((i:Nat):Int)/\lists h wr i f' d va vb vc/\Below h w1 wr) (λ_ _ _ vi _=>n-(intOf vi).toNat)
 case atStart=>exact⟨0,ag,rfl,p0,aO _ _⟩
 case round=>
  clear p0;obtain⟨i,hi,rfl,⟨hp,hq,ho⟩,hb⟩:=hrel;have hs:h<=wr.heap.size:=hh▸hb.size;by_cases qB:i<n
  .have xZ:(i:Int)<(n:Int):=ag;obtain⟨b,o,rfl,Jf,hcell⟩:=yQ.here ag;have cells:∀w',Below h w1 w'->w'.cell? ⟨b,o+i*2,none⟩=some (.string ⟨(f' i).k.toArray⟩)/\w'.cell? ⟨b,o+i*2+1,none⟩=some (.slice (f' i).a (f' i).l (f' i).c):=λw' A8=>⟨qK A8 ag (hcell i qB).1,qK A8 ag (hcell i qB).2⟩
   obtain⟨c0,_⟩:=cells wr hb;obtain⟨hdl,hd⟩:=hD1 i qB
   have hlen:(qM (λj=>d (f' j)) i).length+(d (f' i)).length<=65536:=by have:=Oy (λj=>d (f' j)) (i:=i+1) (n:=n) ag;simp only[qM,bM]at this;omega
   clear hcell;rcases hd with⟨ea,el,ec⟩|⟨ad,ea,hcd⟩
   .have ahv:d (f' i)=[]:=kW.1 ag;have hsz:=Q9 i f';rw[el]at hsz;rw[ea,el,ec]at cells;have HS:Hid _:=hsz;clear hdl ea el ec hsz
    go_wp2_with(first
     |(at_builtin;refine di _ rfl _ _ 22 rfl h 9 i0 (.string ⟨#[]⟩) 1 16 underlying22 zo xY wW vV rfl aB _ _ _ rfl (hp.alloc _) ⟨wr.heap.size,0,none⟩ 1 1 [.string ⟨(f' i).k.toArray⟩] rfl rfl (uj _ _ _) (abe _) bT ag aJ ?_;intro v2 w2 BJ qA _;have Yy:=xB hp hq aB ((aO wr.heap.size wr).alloc (ay _) _) qA;have ho2:=xB hp ho aB ((aO wr.heap.size wr).alloc (ay _) _) qA;have rq:=hb.trans (tJ hp hs ((aO wr.heap.size wr).alloc (ay _) _) qA (ay _));have Gn:h<=w2.heap.size:=hh▸rq.size;have c2:=(cells w2 rq).2;clear qA hp hq ho hb hs c0)
     |(at_builtin;refine di _ rfl _ _ 34 rfl h 3 i1 (.int .i64 0) 1 8 underlying34 F_ hy0 TR hy2 rfl aB _ _ _ rfl (Yy.alloc _) ⟨w2.heap.size,0,none⟩ 1 1 [.int .i64 ((0:Nat):Int)] rfl rfl (uj _ _ _) (OQ _) bT ag aJ ?_;intro v3 w3 hq3 qA _;have hp3:=xB Yy BJ aB ((aO w2.heap.size w2).alloc (ay _) _) qA;have ho3:=xB Yy ho2 aB ((aO w2.heap.size w2).alloc (ay _) _) qA;have uQ:=rq.trans (tJ Yy Gn ((aO w2.heap.size w2).alloc (ay _) _) qA (ay _));have zM:h<=w3.heap.size:=hh▸uQ.size;have c3:=(cells w3 uQ).2;clear qA Yy BJ ho2 rq Gn c2)
     |(at_builtin;refine wpList_append_own_none rfl _ _ 24 rfl h 5 i2 1 underlying24 IG _ _ _ rfl ho3 rfl ?_))
    go_roundw
    case rel=>exact⟨i+1,ag,aV,⟨by rw[Q8];exact hp3,by rw[HS.out];exact hq3,by simp only[qM,ahv,dX];exact ho3⟩,uQ⟩
    case measure=>simp[intOf];omega
   .rw[ea]at cells;clear ea
    go_wp2_with(first
     |(at_builtin;refine di _ rfl _ _ 22 rfl h 9 i0 (.string ⟨#[]⟩) 1 16 underlying22 zo xY wW vV rfl aB _ _ _ rfl (hp.alloc _) ⟨wr.heap.size,0,none⟩ 1 1 [.string ⟨(f' i).k.toArray⟩] rfl rfl (uj _ _ _) (abe _) bT ag aJ ?_;intro v2 w2 BJ qA _;have Yy:=xB hp hq aB ((aO wr.heap.size wr).alloc (ay _) _) qA;have ho2:=xB hp ho aB ((aO wr.heap.size wr).alloc (ay _) _) qA;have rq:=hb.trans (tJ hp hs ((aO wr.heap.size wr).alloc (ay _) _) qA (ay _));have Gn:h<=w2.heap.size:=hh▸rq.size;have c2:=(cells w2 rq).2;clear qA hp hq ho hb hs c0)
     |(at_builtin;refine di _ rfl _ _ 34 rfl h 3 i1 (.int .i64 0) 1 8 underlying34 F_ hy0 TR hy2 rfl aB _ _ _ rfl (Yy.alloc _) ⟨w2.heap.size,0,none⟩ 1 1 [.int .i64 ((f' i).l:Int)] rfl rfl (uj _ _ _) (OQ _) bT ag aJ ?_;intro v3 w3 hq3 qA _;have hp3:=xB Yy BJ aB ((aO w2.heap.size w2).alloc (ay _) _) qA;have ho3:=xB Yy ho2 aB ((aO w2.heap.size w2).alloc (ay _) _) qA;have uQ:=rq.trans (tJ Yy Gn ((aO w2.heap.size w2).alloc (ay _) _) qA (ay _));have zM:h<=w3.heap.size:=hh▸uQ.size;have c3:=(cells w3 uQ).2;clear qA Yy BJ ho2 rq Gn c2)
     |(at_builtin;refine di _ rfl _ _ 24 rfl h 5 i2 (.int .u8 0) 1 1 underlying24 IG zh D5 N8 rfl aB _ _ _ rfl ho3 ad (f' i).l (f' i).c (rP (d (f' i))) rfl (by simp[rP];omega) (λj u hj=>(uQ.cell (p:=ad.add j) (by have:=rY (hcd j u hj);omega)).trans (hcd j u hj)) (UK _) bT ag zM ?_;intro v4 w4 ho4 qA _;have hp4:=xB ho3 hp3 aB (aO _ _) qA;have hq4:=xB ho3 hq3 aB (aO _ _) qA;have Xe:=uQ.trans (tJ ho3 zM (aO _ _) qA (ay _));clear qA ho3 hp3 hq3 uQ))
    go_roundw
    case rel=>exact⟨i+1,ag,aV,⟨by rw[Q8];exact hp4,by rw[Q9];exact hq4,by rw[show(qM (λj=>d (f' j)) (i+1)).length=(qM (λj=>d (f' j)) i).length+(f' i).l by simp[qM,hdl],show rP (qM (λj=>d (f' j)) (i+1))=rP (qM (λj=>d (f' j)) i)++rP (d (f' i))by simp[qM,rP]];exact ho4⟩,Xe⟩
    case measure=>simp[intOf];omega
  .obtain rfl:i=n:=ag;have E5:¬((i:Int)<(i:Int)):=ag;have Uk:∀j,j<i->(d (f' j)).length=(f' j).l:=λj hj=>(hD1 j hj).1
   have hle:∀j,j<i->(f' j).l<=65536:=λj hj=>by have h1:=Oy (λj=>d (f' j)) (i:=j+1) (n:=i) ag;simp only[qM,bM]at h1;have:=Uk j hj;omega
   have VM:=P8 d f' i Uk;have kl:=QT (k:Int) k rfl V4 ag _ _ (by rw[Ea];omega) (aaq i f') (aar i f' λj hj=>by have:=hle j hj;omega) (by rw[VM];exact ht) wr (yT hq);rw[VM]at kl;have CU:Below w.heap.size w wr:=b1.trans (hb.mono ag)
   have hLb:rO k (qM (λj=>d (f' j)) i).length<=65536:=by have:=G_ V4 (qM (λj=>d (f' j)) i).length;omega
   have hoF:∀m,m<(qM (λj=>d (f' j)) i).length->∃g,(∃c,u10=.slice (some ⟨g,0,none⟩) (qM (λj=>d (f' j)) i).length c)/\g<wr.heap.size/\wr.cell? ⟨g,m,none⟩=some (.int .u8 ((sV (qM (λj=>d (f' j)) i) m:Nat):Int)):=λm hm=>by obtain⟨g,c,e,_,Ku⟩:=ho.form ag;refine⟨g,⟨c,e⟩,Ku,?_⟩;subst e;rw[ho.cellAt m ag];exact wF hm
   obtain⟨bx,cx,rfl⟩:∃bo c,u10=.slice bo (qM (λj=>d (f' j)) i).length c:=by
    rcases ho.2 with⟨e,e2⟩|⟨g,c,_,e,_⟩
    .exact⟨none,0,by rw[e,e2]⟩
    .exact⟨_,_,e⟩
   go_wp2_with(first|(go_at_call 32;(with_reducible refine kl.mono ?_);rintro r w' ⟨rfl,sH⟩;obtain rfl:=sH.symm))
   have ar5:∀w2,Below wr.heap.size wr w2->∀m,m<(qM (λj=>d (f' j)) i).length->∃g,bx=some ⟨g,0,none⟩/\w2.cell? ⟨g,m,none⟩=some (.int .u8 ((sV (qM (λj=>d (f' j)) i) m:Nat):Int)):=λw2 rq m hm=>by obtain⟨g,⟨c,e⟩,_,hc⟩:=hoF m hm;cases e;exact⟨g,rfl,qK rq (ay _) hc⟩
   have fin:∀(w2:ah)(bP cP:Nat)(a:Nat->aW)(bl cp:Nat->Nat),Below wr.heap.size wr w2->Cls w2 k (rO k (qM (λj=>d (f' j)) i).length) bP a bl cp (Ox (qM (λj=>d (f' j)) i) (rO k (qM (λj=>d (f' j)) i).length))->abg k i f d w (.returned (.tuple #[.slice (some ⟨bP,0,none⟩) k cP,u8,u9])) w2:=λw2 bP cP a bl cp rq hC=>
    ⟨CU.trans (rq.mono CU.size),f',_,_,bP,cP,a,bl,cp,hR,hS,rfl,(qH hp λg hg=>rq.block g (hp.lt g hg).2).mono ag,(qH hq λg hg=>rq.block g (hq.lt g hg).2).mono ag,hC⟩
   clear ho hoF kl VM hle Uk hR hS hD1 yQ hp hq hb CU hs;generalize hL:rO k (qM (λj=>d (f' j)) i).length=L at*;generalize hl:qM (λj=>d (f' j)) i=l at*;have p1:wr.ownsRow wr.heap.size 24 1 (.slice none 0 0) 0 (U5 0 (λ_=>none) L (λ_=>0)):=bY _ _ _ _;generalize hBs:wr.heap.size=B at*;obtain⟨i3,hi3,Og,E8,xI⟩:=cO Tryz.ae3
   go_loopw [13,14] (λvs vi wq=>∃(j:Nat)(a:Nat->aW)(bl cp:Nat->Nat),j<=k/\vi=.int .i64 ((j:Nat):Int)/\wq.ownsRow B 24 1 vs j (U5 j a L cp)/\(∀t,t<j->0<L->∃cur:aH,a t=some ⟨bl t,0,none⟩/\wq.heap[bl t]?=some (.cells cur 5)/\∀m,m<L->cur[m]?=some (.int .u8 ((Ox l L t m:Nat):Int)))/\Below B wr wq) (λ_ vi _=>k-(intOf vi).toNat)
   case atStart=>exact⟨0,λ_=>none,λ_=>0,λ_=>0,ag,rfl,p1,λt ht=>absurd ht ag,aO _ _⟩
   case round=>
    clear p1;obtain⟨j,a,bl,cp,hj,rfl,hV,We,hbq⟩:=hrel;have hsq:B<=wr.heap.size:=hBs▸hbq.size;by_cases Ku:j<k
    .have anq:(j:Int)<(k:Int):=ag;obtain⟨jL,hjL⟩:∃jL,j*L=jL:=⟨_,rfl⟩;have hmul:(j:Int)*(L:Int)=(jL:Int):=by rw[<-hjL];simp
     have hjb:jL<=8388608:=by rw[<-hjL];exact bF (iI (show j<=128 by omega) hLb) ag
     have hxa:∀m,Ox l L j m=sV l (jL+m):=λm=>by unfold Ox;rw[hjL]
     have HJ:Hid (j*L=jL):=hjL;clear hjL;have p2:wr.ownsRow wr.heap.size 5 1 (.slice none 0 0) 0 (Be 0 (Ox l L j)):=bY _ _ _ _;have arB:∀w2,Below wr.heap.size wr w2->∀m,m<l.length->∃g,bx=some ⟨g,0,none⟩/\w2.cell? ⟨g,m,none⟩=some (.int .u8 ((sV l m:Nat):Int)):=λw2 rq=>ar5 w2 (hbq.trans (rq.mono hsq))
     go_wp2;generalize hBj:wr.heap.size=Bj at*
     go_loopw [15,16] (λvs vm wq=>∃(m:Nat),m<=L/\vm=.int .i64 ((m:Nat):Int)/\wq.ownsRow Bj 5 1 vs m (Be m (Ox l L j))/\Below Bj wr wq) (λ_ vm _=>L-(intOf vm).toNat)
     case atStart=>exact⟨0,ag,rfl,p2,aO _ _⟩
     case round=>
      clear p2;obtain⟨m,hm,rfl,hpm,hbm⟩:=hrel;have hsm:Bj<=wr.heap.size:=hBj▸hbm.size;by_cases asW:m<L
      .have ath:(m:Int)<(L:Int):=ag;have qU:=U4 m (Ox l L j);rw[hxa m]at qU;by_cases VN:jL+m<l.length
       .have asX:(jL:Int)+(m:Int)<(l.length:Int):=ag;obtain⟨g,rfl,hc⟩:=arB wr hbm (jL+m) VN;generalize sV l (jL+m)=D at*;have HS:Hid _:=qU;clear qU
        go_wp2_with(at_builtin;refine di _ rfl _ _ 24 rfl Bj 5 i2 (.int .u8 0) 1 1 underlying24 IG zh D5 N8 rfl aB _ _ _ rfl (hpm.alloc _) ⟨wr.heap.size,0,none⟩ 1 1 [.int .u8 ((D:Nat):Int)] rfl rfl (uj _ _ _) (JG _) bT ag aJ ?_;intro v2 w2 BJ qA _;have rq:=hbm.trans (tJ hpm hsm ((aO _ _).alloc (ay _) _) qA (ay _));clear qA hpm hbm)
        go_roundw
        case rel=>exact⟨m+1,ag,aV,avC,rq⟩
        case measure=>simp[intOf];omega
       .have asX:¬((jL:Int)+(m:Int)<(l.length:Int)):=ag;rw[show sV l (jL+m)=0 from aml ag]at qU;have HS:Hid _:=qU;clear qU
        go_wp2_with(at_builtin;refine di _ rfl _ _ 24 rfl Bj 5 i2 (.int .u8 0) 1 1 underlying24 IG zh D5 N8 rfl aB _ _ _ rfl (hpm.alloc _) ⟨wr.heap.size,0,none⟩ 1 1 [.int .u8 ((0:Nat):Int)] rfl rfl (uj _ _ _) (JG _) bT ag aJ ?_;intro v2 w2 BJ qA _;have rq:=hbm.trans (tJ hpm hsm ((aO _ _).alloc (ay _) _) qA (ay _));clear qA hpm hbm)
        go_roundw
        case rel=>exact⟨m+1,ag,aV,avC,rq⟩
        case measure=>simp[intOf];omega
      .have hmL:m=L:=ag;rw[hmL]at hpm⊢;clear hm asW hmL;have alP:¬((L:Int)<(L:Int)):=ag;obtain⟨x,c,g,rfl,hx⟩:=ajc hpm;have hV1:=qH hV λg hg=>hbm.block g (by have:=(hV.lt g hg).2;omega)
       have aqG:∀t,t<j->0<L->∃cur:aH,a t=some ⟨bl t,0,none⟩/\wr.heap[bl t]?=some (.cells cur 5)/\∀m,m<L->cur[m]?=some (.int .u8 ((Ox l L t m:Nat):Int)):=λt ht h0=>by obtain⟨cur,q1,q2,q3⟩:=We t ht h0;exact⟨cur,q1,(hbm.block _ (by have:=(eG.1 q2).1;omega)).trans q2,q3⟩
       have aqH:=hbq.trans (hbm.mono hsq);have ar6:B<=wr.heap.size:=ag;clear We hV hbm hbq hpm arB
       go_wp2_with(at_builtin;refine di _ rfl _ _ 23 rfl B 24 i3 (.slice none 0 0) 1 24 underlying23 hi3 Og E8 xI rfl aB _ _ _ rfl (hV1.alloc _) ⟨wr.heap.size,0,none⟩ 1 1 [.slice x L c] rfl rfl (uj _ _ _) (aa7 _ _ _) bT ag aJ ?_;intro v2 w2 hV2 qA _)
       have rq:=aqH.trans (tJ hV1 ar6 ((aO _ _).alloc (ay _) _) qA (ay _))
       have kp:∀(b:Nat)(cur:aH),wr.heap[b]?=some (Obj.cells cur 5)->w2.heap[b]?=some (Obj.cells cur 5):=λb cur hc=>by have qB:=(eG.1 hc).1;refine((qA.block b aJ (λe=>?_)).trans (dI _ _ _ qB)).trans hc;obtain⟨c1,f1,e1⟩:=Lib.ownsRow_kind hV1 b e.symm;rw[hc]at e1;cases e1
       clear qA hV1 aqH;rw[<-adp]at hV2
       go_roundw
       case rel=>exact⟨j+1,_,λt=>if t=j then g else bl t,_,ag,aV,hV2,λt ht h0=>by
        by_cases e:t=j
        .subst e;obtain⟨cur,q1,q2,q3⟩:=hx h0;exact⟨cur,(by simpa using q1),(by simpa using kp _ _ q2),q3⟩
        .obtain⟨cur,q1,q2,q3⟩:=aqG t ag h0;exact⟨cur,(by simpa[e]using q1),(by simpa[e]using kp _ _ q2),q3⟩,rq⟩
       case measure=>simp[intOf];omega
    .have hjk:j=k:=ag;rw[hjk]at hV We⊢;clear hj Ku hjk;have aat:¬((k:Int)<(k:Int)):=ag;obtain⟨bP,cP,rfl,_,_⟩:=hV.form ag
     have hC:Cls wr k L bP a bl cp (Ox l L):=⟨λj hj=>by rw[hV.cellAt j ag];exact agy _ _ _ _ hj,λj m hj hm=>by obtain⟨cur,q1,q2,q3⟩:=We j hj ag;exact⟨q1,cell_of_block q2 (q3 m hm)⟩⟩
     have C_:=fin wr bP cP a bl cp hbq hC;clear We hV hC fin;go_wp2;refine dS (results_tmp3 rfl _ _ _) rfl ?_;exact C_
theorem GH(n:Nat)(f:Nat->rU){i:Nat}(hi:i<n):(uf n f).getD i []=(f i).k:=by simp[uf,hi]
theorem Q_{a b:aj}:UX a b=false↔Hp.lt b a=true:=by
 have e:∀x y:aj,Op.bytesLess x y=Hp.lt x y:=λ_ _=>rfl
 unfold UX;rw[e];rcases Hp.Jk a b with⟨g,h,n⟩|⟨g,h,n⟩|⟨rfl,h,_⟩
 .rw[g,h];simp
 .rw[g,h];simp[n]
 .rw[h];simp
theorem OW{n:Nat}{g:Nat->rU}(h:Dk (uf n g)):∀i,i+1<n->Hp.lt (g i).k (g (i+1)).k=true:=λi hi=>by
 have hl:(uf n g).length=n:=by simp[uf]
 have:=(h (i+1) ag).2 ag;rw[GH n g hi,iK,GH n g ag]at this;exact Q_.1 this
theorem agn{n:Nat}{f g:Nat->rU}(hR:qX n f g)(hS:Om n g):Dk (uf n g)↔yt n f:=by
 have hl:(uf n g).length=n:=by simp[uf]
 constructor
 .intro h;refine⟨λi hi=>?_,aja hR (OW h)⟩;obtain⟨j,hj,e⟩:=hR.symm.from hi;have:=(h j ag).1;rw[GH n g hj,<-e]at this;exact this
 .rintro⟨h1,h2⟩ i hi;rw[hl]at hi;rw[GH n g hi];refine⟨?_,λh0=>?_⟩
  .obtain⟨j,hj,e⟩:=hR.from hi;rw[e];exact h1 j hj
  .rw[GH n g ag,Q_];have hle:=hS (i-1) ag;rw[show i-1+1=i by omega]at hle;refine Hp.lt_of_le_ne hle λe=>?_
   obtain⟨x,y,hx,hy,hne,e1,e2⟩:=hR.two (i:=i-1) (j:=i) ag hi ag;rw[e1,e2]at e;rcases bK x y with q|q
   .exact h2 x y q hy e
   .exact h2 y x ag hx e.symm
theorem XF{d:rU->aj}{g g':Nat->rU}:∀n,(∀i,i<n->g' i=g i)->qM (λj=>d (g' j)) n=qM (λj=>d (g j)) n
 |0,_=>rfl
 |n+1,h=>by
  show _++_=_++_;rw[XF n λi hi=>h i ag]
  congr 1
  show d (g' n)=d (g n);rw[h n ag]
def He(k L:Nat)(l:aj)(t:Nat):aj:=(List.range L).map λm=>UInt8.ofNat (A7 (sN k t) (λj=>Ox l L j m) k)
theorem abh(k L:Nat)(l:aj)(t:Nat):(He k L l t).length=L:=by simp[He]
theorem aio(k L:Nat)(l:aj)(t:Nat):rP (He k L l t)=Be L λm=>A7 (sN k t) (λj=>Ox l L j m) k:=by
 unfold He rP Be;rw[kV];refine g_ λm _=>?_
 show Value.int .u8 (((UInt8.ofNat _).toNat:Nat):Int)=_;rw[jy,dB (OM (λ_=>Am) k)]
def aof(k n c:Nat)(ns:List (aj))(zs:dM)(i:Nat)(qC:aj):aj:=
 Oi ([67,65,73,82,78,49]++([UInt8.ofNat k,UInt8.ofNat n,UInt8.ofNat i,0]++(FI 4 c++(FI 4 (Gp ns zs ns.length).length++(FI 4 qC.length++[0,0])))))++Oi (Gp ns zs ns.length)++D6 c qC (nFr c qC.length)++[68,79,78,69]
