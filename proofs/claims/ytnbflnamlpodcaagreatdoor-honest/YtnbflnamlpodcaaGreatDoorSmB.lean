import Derived.Test.YtnbflnamlpodcaaGreatDoorPwB
set_option maxHeartbeats 1000000
set_option maxRecDepth 100000
namespace Go.Proofs.Y
theorem uH(z:ak)(a n m:Nat):part z a (n+m)=part z a n++part z (a+n) m:=by unfold part;rw[List.take_add,pM]
theorem yc{z:ak}{a n:Nat}(h:a+n<=z.length):part z a n=u_ n (le z a n):=by have h1:=aeq (part z a n);rw[qN h,anq h]at h1;exact h1.symm
theorem V_{z:ak}{a n:Nat}(h:AA z a n=none):a+n+8<=z.length/\part z a (n+8)=rJ (part z a n):=by
 have hl:=ahc h;refine⟨hl,?_⟩;unfold AA at h;rw[au ag]at h;split at h
 .rename_i e;rw[uH,e];rfl
 .cases h
theorem aaC(z:ak):∀(ws:ak)(a:Nat),a<=z.length->DK z a ws=none->a+ws.length<=z.length/\part z a ws.length=ws
 |[],a,ha,_=>⟨ha,avj⟩
 |c::ws,a,_,h=>by
  unfold DK at h;split at h
  .cases h
  .rename_i hl;split at h
   .rename_i hc;obtain⟨h1,h2⟩:=aaC z ws (a+1) ag h;refine⟨by rw[dJ];omega,?_⟩;rw[dJ,jy,uH,h2,yc ag];show UInt8.ofNat ((tZ z a+256*0)%256)::([]++ws)=_;rw[hc];have:=nG c;rw[show(c.toNat+256*0)%256=c.toNat by omega];simp
   .cases h
theorem acP(u:ak):∀(c a:Nat)(ns:List (ak))(zs:aA)(ns':List (ak))(zs':aA),a<=u.length->zO u c a ns zs=.ok (ns',zs')->
  ∃ps:List (ak×Nat),ps.length=c/\ns'=ns++ps.map Prod.fst/\zs'=zs++ps.map Prod.snd/\u.drop a=vV ps/\Asc ns (ps.map Prod.fst)
 |0,a,ns,zs,ns',zs',ha,h=>by
  unfold zO at h;split at h
  .cases h
  .cases h;refine⟨[],rfl,ax,ax,?_,trivial⟩;rw[av1 ag];rfl
 |c+1,a,ns,zs,ns',zs',ha,h=>by
  unfold zO at h;cases hb:x9 u a ns zs with
  |error e=>rw[hb]at h;cases h
  |ok x=>
   obtain⟨nm,z⟩:=x;rw[hb]at h;simp only at h;unfold x9 at hb;split at hb
   .cases hb
   .rename_i q1;split at hb
    .cases hb
    .rename_i q2;split at hb
     .cases hb
     .rename_i q3;simp only[Except.ok.injEq,nH]at hb;obtain⟨e1,e2⟩:=hb;have hl:nm.length=le u a 2:=by rw[<-e1];exact qN ag
      obtain⟨ps,g1,g2,g3,g4,g5⟩:=acP u c _ _ _ _ _ oz h;refine⟨(nm,z)::ps,by simp[g1],by simp[g2],by simp[g3],?_,⟨by simp only;omega,λh0=>?_,g5⟩⟩
      .have d1:u.drop a=part u a 2++(part u (a+2) (le u a 2)++(part u (a+2+le u a 2) 4++u.drop (a+(6+nm.length)))):=by
        have t:∀b n,u.drop b=part u b n++u.drop (b+n):=λb n=>by unfold part;rw[<-pM,nM]
        rw[t a 2,t (a+2) (le u a 2),t (a+2+le u a 2) 4,hl,show a+2+le u a 2+4=a+(6+le u a 2)by omega]
       rw[d1,g4,yc (a:=a) (n:=2) ag,e1,yc (a:=a+2+le u a 2) (n:=4) ag,e2,<-hl];simp[vV,S9]
      .have:=λq=>q2 ⟨h0,q⟩
       rw[e1]at this;exact ayh
theorem afT{en:Int}:∀{p:ak}{a m:Nat},Iq en a m p=none->∀j,j<p.length->en<=((m+j:Nat):Int)->tZ p j=0
 |[],_,_,_,j,hj,_=>by simp at hj
 |b::p,a,m,h,j,hj,he=>by
  unfold Iq at h;split at h
  .rename_i q;cases j with
   |zero=>
    rcases q with q|q
    .omega
    .simpa[tZ]using q
   |succ j=>
    rw[Ko];exact afT h j jH ag
  .cases h
theorem We{z:ak}{low:Bool}{c ln:Nat}{en:Int}(hc:1<=c):∀(f a:Nat)(qH akU:ak)(a':Nat),yX z low c ln en f a qH=.ok (akU,a')->qH.length<=ln->ln<=f+qH.length->a<=z.length->
  ∃r,akU=qH++r/\akU.length=ln/\a<=a'/\a'<=z.length/\part z a (a'-a)=(frL c f r).flatten/\(low=true->∀j,j<r.length->en<=((qH.length+j:Nat):Int)->tZ r j=0)
 |0,a,qH,akU,a',h,h1,h2,h3=>by unfold yX at h;cases h;exact⟨[],ax,ag,az _,h3,by simp[part,frL],λ_ j hj=>by simp at hj⟩
 |f+1,a,qH,akU,a',h,h1,h2,h3=>by
  unfold yX at h;split at h
  .cases h;exact⟨[],ax,ag,az _,h3,by simp[part,frL],λ_ j hj=>by simp at hj⟩
  .rename_i qK;cases hs:AA z a (min (ln-qH.length) c)with
   |some e=>rw[hs]at h;cases h
   |none=>
    rw[hs]at h;simp only at h;obtain⟨s1,s2⟩:=V_ hs;cases hp:(if low=true then Iq en a qH.length (part z a (min (ln-qH.length) c))else none)with
    |some e=>rw[hp]at h;cases h
    |none=>
     rw[hp]at h;simp only at h;have vY:(part z a (min (ln-qH.length) c)).length=min (ln-qH.length) c:=qN ag;obtain⟨r,g1,g2,g3,g4,g5,g6⟩:=We hc f _ _ _ _ h axP axP ag
     have hr:r.length=ln-qH.length-min (ln-qH.length) c:=by have:=bI List.length g1;rw[bK,bK,vY,g2]at this;omega
     have ht:(part z a (min (ln-qH.length) c)++r).take c=part z a (min (ln-qH.length) c)/\(part z a (min (ln-qH.length) c)++r).drop c=r:=by
      rcases bJ (ln-qH.length) c with q|q
      .have:r=[]:=lY.1 ag;rw[this,d_,jg ag,av1 ag];exact⟨rfl,rfl⟩
      .have:c=(part z a (min (ln-qH.length) c)).length:=ag;constructor
       .conv=>lhs;arg 1;rw[this]
        simp
       .conv=>lhs;arg 1;rw[this]
        simp
     refine⟨part z a (min (ln-qH.length) c)++r,by rw[g1,fK],g2,ag,g4,?_,λuI j hj he=>?_⟩
     .unfold frL;rw[au,ht.1,ht.2,jY,<-g5,<-s2]
      .rw[show a'-a=(min (ln-qH.length) c+8)+(a'-(a+min (ln-qH.length) c+8))by omega,uH,dW a]
      .intro e;have:=bI List.length e;rw[bK,vY]at this;simp at this;omega
     .rcases bJ j (min (ln-qH.length) c)with q|q
      .rw[acI ag];rw[ay uI]at hp;exact afT hp j ag he
      .rw[YX ag,vY];refine g6 uI _ (by rw[bK,vY]at hj;omega) ?_;rw[bK,vY];omega
theorem acQ:∀(ps:List (ak×Nat)),(ps.map Prod.fst).zip (ps.map Prod.snd)=ps
 |[]=>rfl
 |p::ps=>by rw[gU,gU,List.zip_cons_cons,acQ ps]
def xG.sh(d:xG):Sh:=⟨d.k,d.n,d.i,d.c,d.names,d.sizes.map Int.ofNat,d.qH⟩
theorem PW(l:aA):(l.map Int.ofNat).map Int.toNat=l:=by
 rw[jV]
 conv=>rhs;rw[<-List.map_id l]
 rfl
theorem Yn{z:ak}{d:xG}(h:qY z=.ok d):d.sh.L8/\d.sh.Listed/\d.sh.Few/\d.sh.OC/\¬d.sh.Bad/\Jm d.sh=z:=by
 unfold qY at h;cases hh:GI z with
 |some e=>rw[hh]at h;cases h
 |none=>
  rw[hh]at h;simp only at h;cases hn:EH z (le z 14 4)with
  |error e=>rw[hn]at h;cases h
  |ok x=>
   obtain⟨ns,zs⟩:=x;rw[hn]at h;simp only at h;split at h
   .rename_i hlen;split at h
    .cases h
    .rename_i qH a hf;split at h
     .cases h
     .rename_i ho;cases h;unfold GI at hh;cases h1:DK z 0 BU with
      |some e=>rw[h1]at hh;cases hh
      |none=>
       rw[h1]at hh;cases h2:AA z 0 24 with
       |some e=>rw[h2]at hh;cases hh
       |none=>
        rw[h2]at hh;have hr:UD none (le z 6 1) (le z 7 1) (le z 8 1) (le z 9 1) (le z 10 4) (le z 14 4) (le z 18 4) (le z 22 2)=none:=hh;obtain⟨k1,k2,n1,n2,iN,z0,c1,c2,m1,m2,l1,y0⟩:=NW hr;obtain⟨s1,s2⟩:=V_ h2;obtain⟨_,f2⟩:=aaC z BU 0 ag h1;unfold EH at hn;cases h3:AA z 32 (le z 14 4)with
        |some e=>rw[h3]at hn;cases hn
        |none=>
         rw[h3]at hn;simp only at hn;obtain⟨t1,t2⟩:=V_ h3;split at hn
         .cases hn
         .rename_i ave;have hu:(part z 32 (le z 14 4)).length=le z 14 4:=qN ag;have hA:At z 32 (part z 32 (le z 14 4)):=At.aat z ag
          have e4:le z 32 4=le (part z 32 (le z 14 4)) 0 4:=by have:=hA.num 4 0 ag;rwa[gy]at this
          rw[show(36:Nat)=32+4 from rfl,N_ hA hu _ 4 [] [] ag ax]at hn;cases hl:zO (part z 32 (le z 14 4)) (le z 32 4) 4 [] []with
          |error e=>rw[hl]at hn;cases hn
          |ok x=>
           rw[hl]at hn;cases hn;have hsum:=LM _ _ _ _ _ ax hl;obtain⟨ps,g1,g2,g3,g4,g5⟩:=acP _ _ _ _ _ _ _ ag hl;rw[dA]at g2 g3;have Hg:ns.length=le z 32 4:=by rw[g2,ji,g1]
           have hzl:zs.length=le z 32 4:=by rw[g3,ji,g1]
           have als:Fv (zs.map Int.ofNat)=zs.sum:=by unfold Fv;rw[PW]
           have agI:xq ns (zs.map Int.ofNat) ns.length=part z 32 (le z 14 4):=by rw[Y0 (by rw[ji];omega),PW,g2,g3,acQ,<-g2,Hg,<-g4,e4];have h0:=yc (z:=part z 32 (le z 14 4)) (a:=0) (n:=4) ag;rw[<-h0];unfold part;rw[l9,nM]
           obtain⟨r,q1,q2,q3,q4,q5,q6⟩:=We c1 _ _ _ _ _ hf ax ax ag;rw[dA]at q1;subst q1;cases h5:DK z a vH with
           |some e=>rw[h5]at ho;cases ho
           |none=>
            rw[h5]at ho
            have hz:z.length<=a+4:=by
             rcases bJ (a+4) z.length with q|q
             .have:zL (decide (z.length<=a+4)) 9 (a+4)=none:=ho;rw[fD ag]at this;cases this
             .exact q
            obtain⟨v1,v2⟩:=aaC z vH a q4 h5;have v1':a+4<=z.length:=v1;have asn:le z 18 4=ug (le z 6 1) zs.sum:=by rw[hlen,zS hsum]
            refine⟨⟨?_,?_,?_,?_,?_,?_,?_⟩,⟨?_,?_,?_⟩,⟨?_,?_,?_⟩,?_,?_,?_⟩
            .show(1:Int)<=(le z 6 1:Nat);omega
            .show((le z 6 1:Nat):Int)<=(le z 7 1:Nat);omega
            .show((le z 7 1:Nat):Int)<=128;omega
            .show(0:Int)<=(le z 8 1:Nat);omega
            .show((le z 8 1:Nat):Int)<(le z 7 1:Nat);omega
            .show(1:Int)<=(le z 10 4:Nat);omega
            .show((le z 10 4:Nat):Int)<=65536;omega
            .show ns.length=(zs.map Int.ofNat).length;rw[ji];omega
            .show xk ns;have:=akR (ps.map Prod.fst) [] (λi hi=>by simp at hi) g5;rwa[dA,<-g2]at this
            .intro i hi;have La:i<zs.length:=by simpa[xG.sh]using hi
             simp[xG.sh,cO La]
            .show ns.length<=1000;omega
            .show Fv (zs.map Int.ofNat)<=65536;rw[als];exact hsum
            .show Jp ns<=300000;have:=CX (⟨0,0,0,0,ns,zs.map Int.ofNat,[]⟩:Sh);have e:yD (⟨0,0,0,0,ns,zs.map Int.ofNat,[]⟩:Sh)=part z 32 (le z 14 4):=agI;rw[e,hu]at this;have:le z 14 4=Jp ns:=this;omega
            .show qH.length=ug (le z 6 1) (Fv (zs.map Int.ofNat));rw[als,q2,asn]
            .rintro⟨b1,m,b2,b3,b4⟩;have b1':((le z 8 1:Nat):Int)<(le z 6 1:Nat):=b1;have b2':m<qH.length:=b2;have b3':Fv (zs.map Int.ofNat)<=le z 8 1*ug (le z 6 1) (Fv (zs.map Int.ofNat))+m:=b3;rw[als]at b3';refine b4 (q6 aS m b2' ?_);have e1:DJ zs=zs.sum:=by unfold DJ;rw[ay hsum]
             rw[e1,zS hsum];simp only[dY,bM];omega
            .have w1:uo (xG.sh ⟨le z 6 1,le z 7 1,le z 8 1,le z 10 4,ns,zs,qH⟩) (le z 14 4)=part z 0 24:=by
              have e1:part z 0 24=part z 0 6++(part z 6 1++(part z 7 1++(part z 8 1++(part z 9 1++(part z 10 4++(part z 14 4++(part z 18 4++part z 22 2))))))):=by exact(uH z 0 6 18).trans (bI _ ((uH z 6 1 17).trans (bI _ ((uH z 7 1 16).trans (bI _ ((uH z 8 1 15).trans (bI _ ((uH z 9 1 14).trans (bI _ ((uH z 10 4 10).trans (bI _ ((uH z 14 4 6).trans (bI _ (uH z 18 4 2))))))))))))))
              have f2':part z 0 6=[67,65,73,82,78,49]:=f2;rw[e1,f2',yc (a:=6) ag,yc (a:=7) ag,yc (a:=8) ag,yc (a:=9) ag,yc (a:=10) ag,yc (a:=14) ag,yc (a:=18) ag,yc (a:=22) ag,z0,y0];unfold uo;show[67,65,73,82,78,49]++([b8 (le z 6 1:Nat),b8 (le z 7 1:Nat),b8 (le z 8 1:Nat),0]++(u_ 4 (le z 10 4)++(u_ 4 (le z 14 4)++(u_ 4 qH.length++[0,0]))))=_;rw[q2];rfl
             have w2:yD (xG.sh ⟨le z 6 1,le z 7 1,le z 8 1,le z 10 4,ns,zs,qH⟩)=part z 32 (le z 14 4):=agI;unfold Jm;rw[w2,hu,w1,<-s2,<-t2];show part z 0 32++part z 32 (le z 14 4+8)++su (le z 10 4) qH (Hu (le z 10 4) qH.length)++[68,79,78,69]=z;rw[<-V6 c1 (le z 18 4) qH ag,<-q5];have v2':part z a 4=[68,79,78,69]:=v2;rw[<-v2'];have q3':32+le z 14 4+8<=a:=q3;rw[show part z 0 32=part z 0 (0+32)from rfl];have j1:=uH z 0 32 (le z 14 4+8);have j2:=uH z 0 (32+(le z 14 4+8)) (a-(32+le z 14 4+8));have j3:=uH z 0 a 4;simp only[bM]at j1 j2 j3⊢;rw[<-j1];rw[show 32+(le z 14 4+8)=32+le z 14 4+8 by omega]at j2⊢;rw[<-j2,show 32+le z 14 4+8+(a-(32+le z 14 4+8))=a by omega,<-j3,show a+4=z.length by omega];unfold part;simp
   .cases h
end Go.Proofs.Y
namespace Go.Proofs.Y
open Go.RowKit Go.Deep Go.Lf Go.Conc Go.ConcN Go.Gh Go.Hp
structure ShG(d:xG):Prop where
 fine:d.sh.L8
 listed:d.sh.Listed
 few:d.sh.Few
 long:d.sh.OC
theorem afU{s t:xG}(h:OE s t=true):t.k=s.k/\t.n=s.n/\t.c=s.c/\t.names=s.names/\t.sizes=s.sizes:=by simp only[OE,gW,beq_iff_eq,iP]at h;obtain⟨⟨⟨⟨h1,h2⟩,h3⟩,h4⟩,h5⟩:=h;exact⟨ag,ag,ag,h4.symm,h5.symm⟩
theorem ShG.k1{d:xG}(h:ShG d):1<=d.k/\d.k<=d.n/\d.n<=128/\d.i<d.n:=by obtain⟨⟨a1,a2,a3,a4,a5,a6,a7⟩,_,_,_⟩:=h;simp only[xG.sh]at a1 a2 a3 a4 a5;omega
theorem ShG.Fv{d:xG}(h:ShG d):d.sizes.sum<=65536:=by have:=h.few.bytes;rw[show d.sh.zs=d.sizes.map Int.ofNat from rfl,Um]at this;exact this
theorem ShG.qH{d:xG}(h:ShG d):d.qH.length=ug d.k d.sizes.sum:=by have:=h.long;unfold Sh.OC at this;rw[show d.sh.zs=d.sizes.map Int.ofNat from rfl,Um,show d.sh.K.toNat=d.k from rfl]at this;exact this
theorem ShG.ln{d:xG}(h:ShG d):d.names.length=d.sizes.length:=by have:=h.listed.len;simpa[xG.sh]using this
theorem aqF{n:Nat}{x:Nat->Nat}(h:∀i,i+1<n->x i<x (i+1)):∀j i,i<j->j<n->x i<x j
 |0,i,h1,_=>by omega
 |j+1,i,h1,h2=>by
  have:=h j h2;rcases bJ i j with h3|h3
  .have:=aqF h j i h3 ag;omega
  .obtain rfl:i=j:=ag;exact this
theorem afV{n:Nat}{x:Nat->Nat}(h:∀i,i+1<n->x i<x (i+1)):∀j,j<n->j<=x j
 |0,_=>by omega
 |j+1,h1=>by have:=h j h1;have:=afV h j ag;omega
def MJ(M:Nat)(sh:Nat->xG)(l:ak):Prop:=l.length=(sh 0).sizes.sum/\abD (sh 0).k (ug (sh 0).k (sh 0).sizes.sum) M sh l
theorem aqf{M:Nat}{sh:Nat->xG}(hG:∀i,i<M->ShG (sh i))(Zj:∀i,i+1<M->(sh i).i<=(sh (i+1)).i)(hE:Gz M sh 0):0<M/\DsH (sh 0).k (sh 0).n (ug (sh 0).k (sh 0).sizes.sum) (sh 0).sizes.sum M sh:=by
 rcases hE with⟨h,_⟩|⟨h,_⟩|⟨h,_⟩|⟨_,hA,hD,h0,hk⟩
 .cases h
 .cases h
 .cases h
 have hG0:=hG 0 h0;obtain⟨a1,a2,a3,a4⟩:=hG0.k1
 have uw:∀i,i+1<M->(sh i).i<(sh (i+1)).i:=λi hi=>by
  have:=Zj i hi;have:(sh (i+1)).i≠(sh i).i:=λe=>hD ⟨i,hi,e⟩
  omega
 have hix:∀i,i<M->(sh i).i<(sh 0).n:=λi hi=>by have:=(hG i hi).k1.2.2.2;rw[(afU (hA i hi)).2.1]at this;exact this
 have hMn:M<=128:=by have h1:=afV uw (M-1) ag;have h2:=hix (M-1) ag;omega
 refine⟨h0,a1,a2,a3,hk,hMn,rfl,rfl,rfl,hG0.Fv,rfl,λi hi=>?_,hix,λi j hi hj hne e=>?_⟩
 .obtain⟨e1,_,_,_,e5⟩:=afU (hA i hi);rw[(hG i hi).qH,e1,e5]
 .rcases bJ i j with h|h
  .have:=aqF uw j i h hj;omega
  .have:=aqF uw i j ag hi;omega
def anz(M:Nat)(sh:Nat->xG)(y:ai)(w:ah):Prop:=
 (∃e ev p,Gz M sh e/\e≠0/\y=.tuple #[.slice none 0 0,ev]/\sV w 1 ev e p)\/
 (Gz M sh 0/\(¬∃l,MJ M sh l)/\∃ev p,y=.tuple #[.slice none 0 0,ev]/\sV w 1 ev 13 p)\/
 (Gz M sh 0/\∃l gb vb,MJ M sh l/\(∀l',MJ M sh l'->l'=l)/\y=.tuple #[.slice (some ⟨gb,0,none⟩) (sh 0).names.length (sh 0).names.length,.nilIface]/\CB (sh 0).names (sh 0).sizes l gb (sh 0).names.length vb w)
theorem af8{Fin:Machine->Trace->Prop}(xE:∀m m' ops t,stepT Tryz.prog m=(.next m',ops)->Fin m' (t++ops)->Fin m t){X:Nat->Prop}{Y:Nat->aV}{e:Nat}{gs:dE}{W v0:ah}{sl:Option (Nat×Nat)}{t:Trace}{qq:Nat->Nat}{fr:aJ}{cs:aP}{M cap:Nat}{bo:aY}{sh:Nat->xG}{vN vS vC:Nat->ai}
  (h0:gs[0]?=some (G ((base 19).at ⟨#[.slice bo M cap]++Array.replicate 34 undef,[]⟩ [.code yj]) (fr::cs))) (hB:Ji Tryz.prog (uV X) e gs W t qq) (hs:qQ X Y W v0)
  (hS:Vj v0 bo M sh vN vS vC) (hM:M<=1048576) (hG:∀i,i<M->ShG (sh i)) (he:e+256<2147483648)
  (qJ:∀(e':Nat)(g:Nat->Nat)(y:ai)(X':Nat->Prop)(Og:dE)(W':ah)(sl':Option (Nat×Nat))(t':Trace)(q':Nat->Nat)(Y':Nat->aV)(v':ah),e'<=e+256->Prm M g->(∀i,i+1<M->(sh (g i)).i<=(sh (g (i+1))).i)->Og[0]?=some (G (fr.finish y) cs)->
   Ji Tryz.prog (uV X') e' Og W' t' q'->qQ X' Y' W' v'->(∀b,X b->X' b)->(∀b,X' b->X b\/W.heap.size<=b)->Sub v0 v'->KpX X W W'->anz M (λi=>sh (g i)) y v'->Fin (crowd Og W' sl') t'):
  Fin (crowd gs W sl) t:=by
 let St:aG->ah->Prop:=λgr W=>∃(T:aB)(g:Nat->Nat)(bs:aY)(cp:Nat)(v1:ah),TA1 (.slice bs M cp) T/\Prm M g/\(∀i,i+1<M->(sh (g i)).i<=(sh (g (i+1))).i)/\Vj v1 bs M (λi=>sh (g i)) (λi=>vN (g i)) (λi=>vS (g i)) (λi=>vC (g i))/\sH v0.heap.size v0 v1/\gr=G ((base 19).at ⟨T,[]⟩ [.code ad2]) (fr::cs)/\qQ X Y W v1
 have key:=aqb (Stop:=St) (Y:=Y) (cs:=fr::cs) (cap:=cap) (xX X) hS hM (λi hi=>by have:=(hG i hi).k1;omega) (λT g bs cp v1 a1 a2 a3 a4 a5 y hy=>.stop λd=>⟨T,g,bs,cp,v1,a1,a2,a3,a4,a5,rfl,hy.at d⟩);refine late (Fin:=Fin) (Shun:=uV X) (e:=e) xE (λ_ _ _ h=>h) (λgs1 a1 W1 sl1 t1 q1 h01 uw I8=>?_) (key W hs) W.drawn gs sl t qq h0 hB;obtain⟨T,g,bs,cp,v1,hT,hP,Zj,Qp,uu,rfl,yE⟩:=uw W1.drawn;replace yE:qQ X Y W1 v1:=yE;clear key uw;have KP:=DZ hs yE uu;have UA:=tq uu;have hG1:∀i,i<M->ShG (sh (g i)):=λi hi=>hG _ (hP.lt i hi)
 obtain⟨err,hE⟩:=Gz.some M (λi=>sh (g i));by_cases hz:err=0
 .subst hz;obtain⟨hM0,hH⟩:=aqf (sh:=λi=>sh (g i)) hG1 Zj hE
  let St2:aG->ah->Prop:=λgr W=>∃T2 v2,TA1 (.slice bs M cp) T2/\sH v1.heap.size v1 v2/\gr=G ((base 38).at ⟨#[.slice bs M cp]++Array.replicate 75 undef,[]⟩ [.code yu]) (akL T2::fr::cs)/\qQ X Y W v2
  have amI:=asg (Stop:=St2) (Y:=Y) (cs:=fr::cs) (xX X) hT Qp hM hE (λT' w' a1 a2 y hy=>.stop λd=>⟨T',w',a1,a2,rfl,hy.at d⟩);refine late (Fin:=Fin) (Shun:=uV X) (e:=e) xE (λ_ _ _ h=>h) (λgs2 a2 W2 sl2 t2 q2 h02 uw Ap=>?_) (amI W1 yE) W1.drawn gs1 sl1 t1 q1 h01 I8;obtain⟨T2,v2,WV,tX,rfl,zU⟩:=uw W2.drawn;replace zU:qQ X Y W2 v2:=zU;clear amI uw;have P7:=DZ yE zU tX;have hS2:=Qp.AO tX;have hkn:=hH.kn;have hn1:=hH.n1;refine agM xE h02 Ap zU hH hS2 ag ?_;intro e3 l vd y X3 gs3 W3 sl3 t3 q3 Y3 v3 he3 hl3 h03 Ov xI hX1 Np abE hk3 hLd hDd hR;have aqg:Sub v0 v3:=UA.trans ((tq tX).trans abE);have wH:=P7.size;have xA:=KP.size;have atT:KpX X W W3:=(KP.trans P7 λx hx=>.inl hx).trans hk3 λx hx=>.inl hx
  have hX3:∀b,X3 b->X b\/W.heap.size<=b:=λb hb=>(Np b hb).imp id λh=>ag
  have fin:∀(y:ai)(v4:ah),sH v3.heap.size v3 v4->anz M (λi=>sh (g i)) y v4->∀Wp W4 XQ t4 q4,Wp[0]?=some (G (fr.finish y) cs)->Ji Tryz.prog (uV X3) e3 Wp W4 t4 q4->qQ X3 Y3 W4 v4->Fin (crowd Wp W4 XQ) t4:=λy v4 hb4 hA Wp W4 XQ t4 q4 h04 IM hs4=>
   qJ e3 g y X3 Wp W4 XQ t4 q4 Y3 v4 ag hP Zj h04 IM hs4 hX1 hX3 (aqg.trans (tq hb4)) (atT.trans (DZ xI hs4 hb4) hX3) hA
  let St4:aG->ah->Prop:=λgr W=>∃y v4,sH v3.heap.size v3 v4/\anz M (λi=>sh (g i)) y v4/\gr=G (fr.finish y) cs/\qQ X3 Y3 W v4
  rcases hR with⟨rfl,aso,hun⟩|⟨ev,p,rfl,Zg,Rt⟩
  .have Zk:=afQ (Stop:=St4) (Y:=Y3) (cs:=fr::cs) (w:=v3) (vd:=vd) (ve:=.nilIface) (xX X3) WV (λT4 hT4=>Jl.2 (aqd (Stop:=St4) (l:=l) (xX X3) hT4 (hS2.sub abE) hM0 hLd (by rw[hl3];exact hDd) (hG1 0 hM0).ln hl3.symm (by have:=hH.t1;omega) (λgb vb w' b1 b2 _ z hz=>.stop λd=>⟨_,w',b2,.inr (.inr ⟨hE,l,gb,vb,⟨hl3,aso⟩,λl' h'=>hun l' h'.1 h'.2,rfl,b1⟩),rfl,hz.at d⟩)));exact azB
  .have Zk:=afQ (Stop:=St4) (Y:=Y3) (cs:=fr::cs) (w:=v3) (vd:=.slice none 0 0) (ve:=ev) (xX X3) WV (λT4 hT4=>Jl.2 (aqc (Stop:=St4) (xX X3) hT4 Zg (λev' w' b1 b2 z hz=>.stop λd=>⟨_,w',b2,.inr (.inl ⟨hE,Rt,ev',p,rfl,b1⟩),rfl,hz.at d⟩)));exact azB
 .let St4:aG->ah->Prop:=λgr W=>∃y v4,sH v1.heap.size v1 v4/\anz M (λi=>sh (g i)) y v4/\gr=G (fr.finish y) cs/\qQ X Y W v4
  have Zk:=asf (Stop:=St4) (Y:=Y) (cs:=cs) (fr:=fr) (xX X) hT Qp hM hE hz (λev p w' b1 b2 z hz'=>.stop λd=>⟨_,w',b2,.inl ⟨err,ev,p,hE,hz,rfl,b1⟩,rfl,hz'.at d⟩);refine late (Fin:=Fin) (Shun:=uV X) (e:=e) xE (λ_ _ _ h=>h) (λWp a4 W4 XQ t4 q4 h04 uw IM=>?_) (Zk W1 yE) W1.drawn gs1 sl1 t1 q1 h01 I8;obtain⟨y,v4,b1,b2,rfl,b3⟩:=uw W4.drawn;replace b3:qQ X Y W4 v4:=b3;exact qJ e g y X Wp W4 XQ t4 q4 Y v4 ag hP Zj h04 IM b3 (λ_ h=>h) (λ_ h=>.inl h) (UA.trans (tq b1)) (KP.trans (DZ yE b3 b1) λx hx=>.inl hx) b2
end Go.Proofs.Y
namespace Go.Proofs.Y
open Go.RowKit Go.Deep Go.Lf Go.Conc Go.Hp
noncomputable def yG:Code:=Tryz.f11.body.getD .skip
noncomputable def aaI:Code:=qA (qA (qA (qA yG)))
noncomputable def ac_:Code:=qA aaI
theorem af6:yG=.seq (qM yG) (.seq (qM (qA yG)) (.seq (qM (qA (qA yG))) (.seq (qM (qA (qA (qA yG)))) aaI))):=aj
noncomputable def Zh:{y:Array Oper//y=uq (qM aaI)}:=⟨_,by(simp only[aaI,yG,qM,qA,uq,Tryz.f11,aQ];rfl)⟩
noncomputable def Tz:Array Oper:=Zh.1
theorem alL:aaI=.seq (.region 11 Tz false) ac_:=aj
theorem af7:Tz.size=7:=aj
theorem alK:∃fn,Tryz.prog.funcs[11]?=some fn:=⟨_,Tryz.func11⟩
def Tdc(f:Nat->ai)(a0 a5 a6 a12 a13:ai):aB:=#[a0,f 1,f 2,f 3,f 4,a5,a6,f 7,f 8,f 9,f 10,f 11,a12,a13,f 14,f 15,f 16,f 17,f 18,f 19,f 20,f 21,f 22,f 23,f 24,f 25,f 26,f 27,f 28,f 29,f 30,f 31,f 32,f 33,f 34,f 35,f 36,f 37,f 38,f 39,f 40,f 41,f 42,f 43,f 44,f 45,f 46,f 47,f 48,f 49,f 50,f 51,f 52,f 53,f 54,f 55]
theorem ac9{T:aB}(h:T=#[ae T 0,ae T 1,ae T 2,ae T 3,ae T 4,ae T 5,ae T 6,ae T 7,ae T 8,ae T 9,ae T 10,ae T 11,ae T 12,ae T 13,ae T 14,ae T 15,ae T 16,ae T 17,ae T 18,ae T 19,ae T 20,ae T 21,ae T 22,ae T 23,ae T 24,ae T 25,ae T 26,ae T 27,ae T 28,ae T 29,ae T 30,ae T 31,ae T 32,ae T 33,ae T 34,ae T 35,ae T 36,ae T 37,ae T 38,ae T 39,ae T 40,ae T 41,ae T 42,ae T 43,ae T 44,ae T 45,ae T 46,ae T 47,ae T 48,ae T 49,ae T 50,ae T 51,ae T 52,ae T 53,ae T 54,ae T 55]):T=Tdc (λi=>T.getD i undef) (ae T 0) (ae T 5) (ae T 6) (ae T 12) (ae T 13):=h
def TE1(gv n:Nat)(vt:ai)(T:aB):Prop:=∃f:Nat->ai,T=Tdc f (f 0) (.slice (some ⟨gv,0,none⟩) n n) vt (f 12) (f 13)
def TE2(gv n:Nat)(vb ve:ai)(T:aB):Prop:=∃f:Nat->ai,T=Tdc f (f 0) (.slice (some ⟨gv,0,none⟩) n n) (f 6) vb ve
noncomputable def ah3(T:aB):aJ:=(base 11).at ⟨T,[]⟩ (.inRegion Tz [1,2,3,4,5,6]::[.code ac_])
def okS(l:ak):Option xG:=match qY l with| .ok s=>some s| .error _=>none
def erS(l:ak):Nat:=match qY l with| .ok _=>0| .error e=>e.1
def Nw(bs:Nat->ak)(j:Nat):List xG:=(List.range j).filterMap λi=>okS (bs i)
theorem ah2{bs:Nat->ak}{j:Nat}{s:xG}(h:qY (bs j)=.ok s):Nw bs (j+1)=Nw bs j++[s]:=by simp[Nw,dZ,okS,h]
theorem ah1{bs:Nat->ak}{j:Nat}{e:Nat×Nat}(h:qY (bs j)=.error e):Nw bs (j+1)=Nw bs j:=by simp[Nw,dZ,okS,h]
def shD:xG:=⟨0,0,0,0,[],[],[]⟩
def AP(ts:List xG)(i:Nat):xG:=ts.getD i shD
theorem acR{ts:List xG}{s:xG}{i:Nat}(h:i<ts.length):AP (ts++[s]) i=AP ts i:=by simp[AP,gV h]
theorem acS{ts:List xG}{s:xG}:AP (ts++[s]) ts.length=s:=by simp[AP]
def Wh(S:Nat->aK)(n:Nat):aK:=(List.range n).flatMap S
theorem Oa(S:Nat->aK)(n:Nat):Wh S (n+1)=Wh S n++S n:=by simp[Wh,dZ]
theorem acT{S S':Nat->aK}{n:Nat}(h:∀i,i<n->S i=S' i):Wh S n=Wh S' n:=by
 induction n with
 |zero=>rfl
 |succ n ih=>rw[Oa,Oa,ih λi hi=>h i ag,h n ag]
structure Tk(B:Nat)(ts:List xG)(vN vS vC:Nat->ai)(vt:ai)(w:ah):Prop where
 own:w.ownsRow B 55 7 vt ts.length (Wh (λi=>WQ (AP ts i) (vN i) (vS i) (vC i)) ts.length)
 nm:∀i,i<ts.length->w.ownsRow B 9 1 (vN i) (AP ts i).names.length (xe (AP ts i).names)
 sz:∀i,i<ts.length->w.ownsRow B 3 1 (vS i) (AP ts i).sizes.length (zV (AP ts i).sizes)
 cl:∀i,i<ts.length->w.ownsRow B 5 1 (vC i) (AP ts i).qH.length (sJ (AP ts i).qH)
theorem Tk.Bz{B:Nat}{ts:List xG}{vN vS vC:Nat->ai}{vt:ai}{w w':ah}(h:Tk B ts vN vS vC vt w)(hk:∀b,B<=b->b<w.heap.size->w'.heap[b]?=w.heap[b]?):Tk B ts vN vS vC vt w':=
 ⟨rU h.own λg hg=>hk g (h.own.lt g hg).1 (h.own.lt g hg).2,λi hi=>rU (h.nm i hi) λg hg=>hk g ((h.nm i hi).lt g hg).1 ((h.nm i hi).lt g hg).2,
  λi hi=>rU (h.sz i hi) λg hg=>hk g ((h.sz i hi).lt g hg).1 ((h.sz i hi).lt g hg).2,λi hi=>rU (h.cl i hi) λg hg=>hk g ((h.cl i hi).lt g hg).1 ((h.cl i hi).lt g hg).2⟩
theorem Tk.more{B:Nat}{ts:List xG}{vN vS vC:Nat->ai}{vt v':ai}{w w':ah}{s:xG}{xN xS xC:ai}(h:Tk B ts vN vS vC vt w)(hN:w.ownsRow B 9 1 xN s.names.length (xe s.names))(hS:w.ownsRow B 3 1 xS s.sizes.length (zV s.sizes))(hC:w.ownsRow B 5 1 xC s.qH.length (sJ s.qH))
  (hg:w.grownBy w' vt.ownBlock) (ho:w'.ownsRow B 55 7 v' (ts.length+1) (Wh (λi=>WQ (AP ts i) (vN i) (vS i) (vC i)) ts.length++WQ s xN xS xC)):
  Tk B (ts++[s]) (λi=>if i=ts.length then xN else vN i) (λi=>if i=ts.length then xS else vS i) (λi=>if i=ts.length then xC else vC i) v' w':=by
 have key:∀{t n:Nat}{v:ai}{xs:aK},w.ownsRow B t 1 v n xs->t≠55->w'.ownsRow B t 1 v n xs:=λ{t n v xs} o ht=>rU o λg uO=>hg.block g (o.lt g uO).2 (λe=>D6 o h.own ht uO e.symm);have hl:(ts++[s]).length=ts.length+1:=ax;refine⟨?_,λi hi=>?_,λi hi=>?_,λi hi=>?_⟩
 .rw[hl,Oa,acT (S':=λi=>WQ (AP ts i) (vN i) (vS i) (vC i)) λi hi=>by simp only[au (show i≠ts.length by omega),acR hi]];simp only[aX,acS];exact ho
 all_goals
  by_cases e:i=ts.length
  .subst e;simp only[aX,acS]
   first|exact key hN aC|exact key hS aC|exact key hC aC
  .have La:i<ts.length:=ag;simp only[au e,acR La]
   first|exact key (h.nm i La) aC|exact key (h.sz i La) aC|exact key (h.cl i La) aC
theorem Tk.sds{B:Nat}{ts:List xG}{vN vS vC:Nat->ai}{vt:ai}{w:ah}(h:Tk B ts vN vS vC vt w)(hG:∀s∈ts,ShG s):∃bo cap,vt=.slice bo ts.length cap/\Vj w bo ts.length (AP ts) vN vS vC:=by
 have hG':∀i,i<ts.length->ShG (AP ts i):=λi hi=>hG _ (by simp[AP,cO hi])
 have hv:∃bs cp,vt=.slice bs ts.length cp/\(0<ts.length->∃g,bs=some ⟨g,0,none⟩):=by
  rcases h.own.2 with⟨h1,h0⟩|⟨g,c,_,h1,_⟩
  .exact⟨none,0,by rw[h1,h0],λh=>ag⟩
  .exact⟨_,c,h1,λ_=>⟨g,rfl⟩⟩
 obtain⟨bs,cp,rfl,hbs⟩:=hv
 have Me:∀i,i<ts.length->(AP ts i).names.length<=1048576/\(AP ts i).sizes.length<=1048576:=λi hi=>by have h1:=(hG' i hi).few.ai_;have h2:=(hG' i hi).ln;simp only[xG.sh]at h1;omega
 refine⟨bs,cp,rfl,λhn=>?_,λi hi=>⟨qU.owned (h.nm i hi),(Me i hi).1⟩,λi hi=>⟨qU.owned (h.sz i hi),(Me i hi).2⟩,λi hi=>qU.owned (h.cl i hi),λi hi=>by have:=(hG' i hi).k1;omega⟩;obtain⟨g,rfl⟩:=hbs hn;have hr:∀i,i<ts.length->w.rangeAt g (i*7) (WQ (AP ts i) (vN i) (vS i) (vC i)):=λi hi=>y8 (c:=λe=>WQ (AP ts e.l) (vN e.l) (vS e.l) (vC e.l)) (f:=λi=>⟨[],none,i,0⟩) (λ_=>rfl) h.own hi
 exact⟨g,0,rfl,rG (hr 0 hn 0 _ rfl),λi hi=>by rw[bM];exact hr i hi⟩
theorem XN{z:ak}{s:xG}(h:qY z=.ok s):ShG s:=by obtain⟨h1,h2,h3,h4,_⟩:=Yn h;exact⟨h1,h2,h3,h4⟩
theorem aaL(bs:Nat->ak)(j:Nat):∀s∈Nw bs j,ShG s:=λs hs=>by
 obtain⟨i,_,h⟩:=List.mem_filterMap.1 hs;unfold okS at h;split at h
 .rename_i s' hp;cases h;exact XN hp
 .cases h
theorem ae0(bs:Nat->ak)(j:Nat):(Nw bs j).length<=j:=by have:=List.length_filterMap_le (λi=>okS (bs i)) (List.range j);simpa[Nw]using this
end Go.Proofs.Y
namespace Go.Proofs.Y
open Go.RowKit Go.Deep Go.Hp
def Pm(c:Int):Nat:=1+yI c 9
theorem akV(c:Int):1<=Pm c/\Pm c<=9:=by have:=yH c (show 0<9 by omega);unfold Pm;omega
theorem abR(k n c:Int)(hk:Jg k)(hn:Jg n)(hc:Jg c)(w:ah):
  Calls Tryz.prog 6 #[.int .i64 k,.int .i64 n,.int .i64 c] w λe w'=>e=.returned (prm (LY k n) (zy n) (Pm c))/\Below w.heap.size w w':=by
 have hN:=aab n;have hK:=akW k n;have hC:=akV c;have eN:(1:Int)+((yI n 12:Nat):Int)=((zy n:Nat):Int):=by simp[zy]
 have eK:(1:Int)+((yI k (zy n):Nat):Int)=((LY k n:Nat):Int):=by simp[LY]
 have eC:(1:Int)+((yI c 9:Nat):Int)=((Pm c:Nat):Int):=by simp[Pm]
 have pN:=yH n (show 0<12 by omega);have pK:=yH k (show 0<zy n by omega);have pC:=yH c (show 0<9 by omega);go_enter Tryz.func6,Tryz.ntmps6;have c1:=Dq n 12 12 rfl hn.1 hn.2 ag ag;have c2:=Dq k (zy n) (zy n:Int) rfl hk.1 hk.2 ag ag;have c3:=Dq c 9 9 rfl hc.1 hc.2 ag ag;generalize hpk:yI k (zy n)=pk at*;generalize hpn:yI n 12=pn at*;generalize hpc:yI c 9=pc at*;generalize hkk:LY k n=kk at*;generalize hnn:zy n=nn at*;generalize hcc:Pm c=cc at*;clear hpk hpn hkk hnn hpc hcc
 go_wp2_with(first
  |(go_at_call 10;(with_reducible refine(c1 _).mono ?_);rintro e w' ⟨rfl,uf⟩;obtain rfl:=uf.symm)
  |(go_at_call 10;(with_reducible refine(c2 _).mono ?_);rintro e w' ⟨rfl,uf⟩;obtain rfl:=uf.symm)
  |(go_at_call 10;(with_reducible refine(c3 _).mono ?_);rintro e w' ⟨rfl,uf⟩;obtain rfl:=uf.symm))
 have hF:((w.alloc (Obj.cells #[.int .i64 kk,.int .i64 nn,.int .i64 cc] 24)).alloc (Obj.cells #[.int .i64 kk,.int .i64 nn,.int .i64 cc] 24)).heap[w.heap.size]?=some (.cells #[.int .i64 kk,.int .i64 nn,.int .i64 cc] 24 (0,0)):=by exact ay5
 refine iD (oI (p:=6) rfl _ _ w.heap.size 24 _ (0,0) _ aI hF Tryz.underlying24 rfl aj) rfl ?_;exact⟨rfl,((aT _ _).alloc (az _) _).alloc ax _⟩
def wU(i:Nat):ak:=[98,UInt8.ofNat (97+i)]
theorem alg(i:Nat)(hi:i<26)(w:ah):
  Calls Tryz.prog 14 #[.int .i64 (i:Int)] w λe w'=>e=.returned (rH (wU i))/\Below w.heap.size w w':=by
 go_enter Tryz.func14,Tryz.ntmps14;have em:(i:Int)%26=(i:Int):=ag
 have kc:(convert 34 9 (.slice (some ⟨w.heap.size,0,none⟩) 2 2)).run Tryz.prog (w.alloc (.cells #[.int .u8 98,.int .u8 (97+(i:Int))] 5))=.ok (.string ⟨(wU i).toArray⟩) (w.alloc (.cells #[.int .u8 98,.int .u8 (97+(i:Int))] 5)):=by
  refine aaD.string (l:=wU i) (.inr ⟨_,2,rfl,λj hj=>?_⟩);have hn:=fC w (.cells #[.int .u8 98,.int .u8 (97+(i:Int))] 5)
  have e1:((UInt8.ofNat (97+i)).toNat:Int)=97+(i:Int):=by rw[fP,cu ag];omega
  have hj2:j<2:=hj
  match j,hj2 with
  |0,_=>
   show World.cell? _ ⟨w.heap.size,0,none⟩=_;simp only[World.cell?,hn];rfl
  |1,_=>
   show World.cell? _ ⟨w.heap.size,1,none⟩=some (.int .u8 ((UInt8.ofNat (97+i)).toNat:Int));rw[e1];simp only[World.cell?,hn];rfl
 go_wp2;go_ret;exact⟨rfl,(aT _ _).alloc (az _) _⟩
theorem akX{i j:Nat}(hi:i<26)(hj:j<26)(h:wU i=wU j):i=j:=by
 have e:UInt8.ofNat (97+i)=UInt8.ofNat (97+j):=by unfold wU at h;simpa using h
 have:=bI UInt8.toNat e;rw[fP,fP,cu ag,cu ag]at this;omega
theorem ahi(k n c:Int):AQ ((LY k n:Nat):Int) ((zy n:Nat):Int) ((Pm c:Nat):Int):=by have:=aab n;have:=akW k n;have:=akV c;refine⟨?_,ag,ag⟩;unfold CJ;omega
theorem agb{m:Nat}{f:Nat->qX}{xs:Nat->Nat}(hx:∀i,i<m->xs i<26)(hd:∀i j,i<j->j<m->xs i≠xs j)(hk:∀i,i<m->(f i).k=wU (xs i)):uX m f:=
 ⟨λi hi=>by rw[hk i hi];exact⟨by simp[wU],by simp[wU]⟩,λi j h1 h2 e=>hd i j h1 h2 (akX (hx i ag) (hx j h2) (by rw[<-hk i ag,<-hk j h2];exact e))⟩
