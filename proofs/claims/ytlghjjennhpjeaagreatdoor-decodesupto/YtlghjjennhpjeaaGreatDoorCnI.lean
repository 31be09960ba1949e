import Derived.Test.YtlghjjennhpjeaaGreatDoorPwB
set_option maxHeartbeats 1000000
set_option maxRecDepth 100000
namespace Go.Proofs.Y
theorem uy(z:aj)(a n m:Nat):part z a (n+m)=part z a n++part z (a+n) m:=by unfold part;rw[List.take_add,pI]
theorem xA{z:aj}{a n:Nat}(h:a+n<=z.length):part z a n=FI n (le z a n):=by have h1:=acG (part z a n);rw[qF h,ak9 h]at h1;exact h1.symm
theorem TY{z:aj}{a n:Nat}(h:sS z a n=none):a+n+8<=z.length/\part z a (n+8)=Oi (part z a n):=by
 have hl:=Ky h;refine⟨hl,?_⟩;unfold sS at h;rw[au ag]at h;split at h
 .rename_i e;rw[uy,e];rfl
 .cases h
theorem YG(z:aj):∀(ws:aj)(a:Nat),a<=z.length->uS z a ws=none->a+ws.length<=z.length/\part z a ws.length=ws
 |[],a,ha,_=>⟨ha,by simp[part]⟩
 |c::ws,a,_,h=>by
  unfold uS at h;split at h
  .cases h
  .rename_i hl;split at h
   .rename_i hc;obtain⟨h1,h2⟩:=YG z ws (a+1) ag h;refine⟨by rw[dQ];omega,?_⟩;rw[dQ,nC,uy,h2,xA ag];show UInt8.ofNat ((sV z a+256*0)%256)::([]++ws)=_;rw[hc];have:=mY c;rw[show(c.toNat+256*0)%256=c.toNat by omega];simp
   .cases h
theorem aab(u:aj):∀(c a:Nat)(ns:List (aj))(zs:aC)(ns':List (aj))(zs':aC),a<=u.length->BU u c a ns zs=.ok (ns',zs')->
  ∃ps:List (aj×Nat),ps.length=c/\ns'=ns++ps.map Prod.fst/\zs'=zs++ps.map Prod.snd/\u.drop a=YH ps/\Asc ns (ps.map Prod.fst)
 |0,a,ns,zs,ns',zs',ha,h=>by
  unfold BU at h;split at h
  .cases h
  .cases h;refine⟨[],rfl,aA,aA,?_,trivial⟩;rw[auV ag];rfl
 |c+1,a,ns,zs,ns',zs',ha,h=>by
  unfold BU at h;cases hb:yh u a ns zs with
  |error e=>rw[hb]at h;cases h
  |ok x=>
   obtain⟨nm,z⟩:=x;rw[hb]at h;simp only at h;unfold yh at hb;split at hb
   .cases hb
   .rename_i q1;split at hb
    .cases hb
    .rename_i q2;split at hb
     .cases hb
     .rename_i q3;simp only[Except.ok.injEq,oI]at hb;obtain⟨e1,e2⟩:=hb;have hl:nm.length=le u a 2:=by rw[<-e1];exact qF ag
      obtain⟨ps,g1,g2,g3,g4,g5⟩:=aab u c _ _ _ _ _ nY h;refine⟨(nm,z)::ps,by simp[g1],by simp[g2],by simp[g3],?_,⟨by simp only;omega,λh0=>?_,g5⟩⟩
      .have d1:u.drop a=part u a 2++(part u (a+2) (le u a 2)++(part u (a+2+le u a 2) 4++u.drop (a+(6+nm.length)))):=by
        have t:∀b n,u.drop b=part u b n++u.drop (b+n):=λb n=>by unfold part;rw[<-pI,oV]
        rw[t a 2,t (a+2) (le u a 2),t (a+2+le u a 2) 4,hl,show a+2+le u a 2+4=a+(6+le u a 2)by omega]
       rw[d1,g4,xA (a:=a) (n:=2) ag,e1,xA (a:=a+2+le u a 2) (n:=4) ag,e2,<-hl];simp[YH,ahF]
      .have:=λq=>q2 ⟨h0,q⟩
       rw[e1]at this;exact axb
theorem aeD{en:Int}:∀{p:aj}{a m:Nat},Dj en a m p=none->∀j,j<p.length->en<=((m+j:Nat):Int)->sV p j=0
 |[],_,_,_,j,hj,_=>by simp at hj
 |b::p,a,m,h,j,hj,he=>by
  unfold Dj at h;split at h
  .rename_i q;cases j with
   |zero=>
    rcases q with q|q
    .omega
    .simpa[sV]using q
   |succ j=>
    rw[Ji];exact aeD h j iC ag
  .cases h
theorem TZ{z:aj}{low:Bool}{c ln:Nat}{en:Int}(hc:1<=c):∀(f a:Nat)(qC YI:aj)(a':Nat),tu z low c ln en f a qC=.ok (YI,a')->qC.length<=ln->ln<=f+qC.length->a<=z.length->
  ∃r,YI=qC++r/\YI.length=ln/\a<=a'/\a'<=z.length/\part z a (a'-a)=(frL c f r).flatten/\(low=true->∀j,j<r.length->en<=((qC.length+j:Nat):Int)->sV r j=0)
 |0,a,qC,YI,a',h,h1,h2,h3=>by unfold tu at h;cases h;exact⟨[],aA,ag,ay _,h3,by simp[part,frL],λ_ j hj=>by simp at hj⟩
 |f+1,a,qC,YI,a',h,h1,h2,h3=>by
  unfold tu at h;split at h
  .cases h;exact⟨[],aA,ag,ay _,h3,by simp[part,frL],λ_ j hj=>by simp at hj⟩
  .rename_i qB;cases hs:sS z a (min (ln-qC.length) c)with
   |some e=>rw[hs]at h;cases h
   |none=>
    rw[hs]at h;simp only at h;obtain⟨s1,s2⟩:=TY hs;cases hp:(if low=true then Dj en a qC.length (part z a (min (ln-qC.length) c))else none)with
    |some e=>rw[hp]at h;cases h
    |none=>
     rw[hp]at h;simp only at h;have uD:(part z a (min (ln-qC.length) c)).length=min (ln-qC.length) c:=qF ag;obtain⟨r,g1,g2,g3,g4,g5,g6⟩:=TZ hc f _ _ _ _ h awJ awJ ag
     have hr:r.length=ln-qC.length-min (ln-qC.length) c:=by have:=bI List.length g1;rw[bM,bM,uD,g2]at this;omega
     have ht:(part z a (min (ln-qC.length) c)++r).take c=part z a (min (ln-qC.length) c)/\(part z a (min (ln-qC.length) c)++r).drop c=r:=by
      rcases bK (ln-qC.length) c with q|q
      .have:r=[]:=kW.1 ag;rw[this,dX,gZ ag,auV ag];exact⟨rfl,rfl⟩
      .have:c=(part z a (min (ln-qC.length) c)).length:=ag;constructor
       .conv=>lhs;arg 1;rw[this]
        simp
       .conv=>lhs;arg 1;rw[this]
        simp
     refine⟨part z a (min (ln-qC.length) c)++r,by rw[g1,kX],g2,ag,g4,?_,λvU j hj he=>?_⟩
     .unfold frL;rw[au,ht.1,ht.2,o_,<-g5,<-s2]
      .rw[show a'-a=(min (ln-qC.length) c+8)+(a'-(a+min (ln-qC.length) c+8))by omega,uy,dO a]
      .intro e;have:=bI List.length e;rw[bM,uD]at this;simp at this;omega
     .rcases bK j (min (ln-qC.length) c)with q|q
      .rw[ahG ag];rw[ax vU]at hp;exact aeD hp j ag he
      .rw[afz ag,uD];refine g6 vU _ (by rw[bM,uD]at hj;omega) ?_;rw[bM,uD];omega
theorem aac:∀(ps:List (aj×Nat)),(ps.map Prod.fst).zip (ps.map Prod.snd)=ps
 |[]=>rfl
 |p::ps=>by rw[je,je,List.zip_cons_cons,aac ps]
def vZ.sh(d:vZ):Sh:=⟨d.k,d.n,d.i,d.c,d.names,d.sizes.map Int.ofNat,d.qC⟩
theorem Oj(l:aC):(l.map Int.ofNat).map Int.toNat=l:=by
 rw[kV]
 conv=>rhs;rw[<-List.map_id l]
 rfl
theorem afA{z:aj}{d:vZ}(h:qN z=.ok d):d.sh.Xc/\d.sh.Listed/\d.sh.Few/\d.sh.ak_/\¬d.sh.Bad/\wrB d.sh=z:=by
 unfold qN at h;cases hh:Bc z with
 |some e=>rw[hh]at h;cases h
 |none=>
  rw[hh]at h;simp only at h;cases hn:vX z (le z 14 4)with
  |error e=>rw[hn]at h;cases h
  |ok x=>
   obtain⟨ns,zs⟩:=x;rw[hn]at h;simp only at h;split at h
   .rename_i hlen;split at h
    .cases h
    .rename_i qC a hf;split at h
     .cases h
     .rename_i ho;cases h;unfold Bc at hh;cases h1:uS z 0 vJ with
      |some e=>rw[h1]at hh;cases hh
      |none=>
       rw[h1]at hh;cases h2:sS z 0 24 with
       |some e=>rw[h2]at hh;cases hh
       |none=>
        rw[h2]at hh;have hr:Md none (le z 6 1) (le z 7 1) (le z 8 1) (le z 9 1) (le z 10 4) (le z 14 4) (le z 18 4) (le z 22 2)=none:=hh;obtain⟨k1,k2,n1,n2,iN,z0,c1,c2,m1,m2,l1,y0⟩:=GZ hr;obtain⟨s1,s2⟩:=TY h2;obtain⟨_,f2⟩:=YG z vJ 0 ag h1;unfold vX at hn;cases h3:sS z 32 (le z 14 4)with
        |some e=>rw[h3]at hn;cases hn
        |none=>
         rw[h3]at hn;simp only at hn;obtain⟨t1,t2⟩:=TY h3;split at hn
         .cases hn
         .rename_i atW;have hu:(part z 32 (le z 14 4)).length=le z 14 4:=qF ag;have hA:At z 32 (part z 32 (le z 14 4)):=At.YJ z ag
          have e4:le z 32 4=le (part z 32 (le z 14 4)) 0 4:=by have:=hA.num 4 0 ag;rwa[fF]at this
          rw[show(36:Nat)=32+4 from rfl,Nl hA hu _ 4 [] [] ag aA]at hn;cases hl:BU (part z 32 (le z 14 4)) (le z 32 4) 4 [] []with
          |error e=>rw[hl]at hn;cases hn
          |ok x=>
           rw[hl]at hn;cases hn;have hsum:=KD _ _ _ _ _ aA hl;obtain⟨ps,g1,g2,g3,g4,g5⟩:=aab _ _ _ _ _ _ _ ag hl;rw[dw]at g2 g3;have E5:ns.length=le z 32 4:=by rw[g2,jP,g1]
           have Xd:zs.length=le z 32 4:=by rw[g3,jP,g1]
           have VM:Nb (zs.map Int.ofNat)=zs.sum:=by unfold Nb;rw[Oj]
           have apS:Gp ns (zs.map Int.ofNat) ns.length=part z 32 (le z 14 4):=by rw[afB (by rw[jP];omega),Oj,g2,g3,aac,<-g2,E5,<-g4,e4];have h0:=xA (z:=part z 32 (le z 14 4)) (a:=0) (n:=4) ag;rw[<-h0];unfold part;rw[ik,oV]
           obtain⟨r,q1,q2,q3,q4,q5,q6⟩:=TZ c1 _ _ _ _ _ hf aA aA ag;rw[dw]at q1;subst q1;cases h5:uS z a xm with
           |some e=>rw[h5]at ho;cases ho
           |none=>
            rw[h5]at ho
            have hz:z.length<=a+4:=by
             rcases bK (a+4) z.length with q|q
             .have:qJ (decide (z.length<=a+4)) 9 (a+4)=none:=ho;rw[dY ag]at this;cases this
             .exact q
            obtain⟨v1,v2⟩:=YG z xm a q4 h5;have v1':a+4<=z.length:=v1;have apT:le z 18 4=rO (le z 6 1) zs.sum:=by rw[hlen,zq hsum]
            refine⟨⟨?_,?_,?_,?_,?_,?_,?_⟩,⟨?_,?_,?_⟩,⟨?_,?_,?_⟩,?_,?_,?_⟩
            .show(1:Int)<=(le z 6 1:Nat);omega
            .show((le z 6 1:Nat):Int)<=(le z 7 1:Nat);omega
            .show((le z 7 1:Nat):Int)<=128;omega
            .show(0:Int)<=(le z 8 1:Nat);omega
            .show((le z 8 1:Nat):Int)<(le z 7 1:Nat);omega
            .show(1:Int)<=(le z 10 4:Nat);omega
            .show((le z 10 4:Nat):Int)<=65536;omega
            .show ns.length=(zs.map Int.ofNat).length;rw[jP];omega
            .show Dk ns;have:=ahH (ps.map Prod.fst) [] (λi hi=>qg) g5;rwa[dw,<-g2]at this
            .intro i hi;have IC:i<zs.length:=by simpa[vZ.sh]using hi
             simp[vZ.sh,bQ IC]
            .show ns.length<=1000;omega
            .show Nb (zs.map Int.ofNat)<=65536;rw[VM];exact hsum
            .show afC ns<=300000;have:=aad (⟨0,0,0,0,ns,zs.map Int.ofNat,[]⟩:Sh);have e:afD (⟨0,0,0,0,ns,zs.map Int.ofNat,[]⟩:Sh)=part z 32 (le z 14 4):=apS;rw[e,hu]at this;have:le z 14 4=afC ns:=this;omega
            .show qC.length=rO (le z 6 1) (Nb (zs.map Int.ofNat));rw[VM,q2,apT]
            .rintro⟨b1,m,b2,b3,b4⟩;have b1':((le z 8 1:Nat):Int)<(le z 6 1:Nat):=b1;have b2':m<qC.length:=b2;have b3':Nb (zs.map Int.ofNat)<=le z 8 1*rO (le z 6 1) (Nb (zs.map Int.ofNat))+m:=b3;rw[VM]at b3';refine b4 (q6 aJ m b2' ?_);have e1:rZ zs=zs.sum:=by unfold rZ;rw[ax hsum]
             rw[e1,zq hsum];simp only[d_,bJ];omega
            .have w1:akK (vZ.sh ⟨le z 6 1,le z 7 1,le z 8 1,le z 10 4,ns,zs,qC⟩) (le z 14 4)=part z 0 24:=by
              have e1:part z 0 24=part z 0 6++(part z 6 1++(part z 7 1++(part z 8 1++(part z 9 1++(part z 10 4++(part z 14 4++(part z 18 4++part z 22 2))))))):=by exact(uy z 0 6 18).trans (bI _ ((uy z 6 1 17).trans (bI _ ((uy z 7 1 16).trans (bI _ ((uy z 8 1 15).trans (bI _ ((uy z 9 1 14).trans (bI _ ((uy z 10 4 10).trans (bI _ ((uy z 14 4 6).trans (bI _ (uy z 18 4 2))))))))))))))
              have f2':part z 0 6=[67,65,73,82,78,49]:=f2;rw[e1,f2',xA (a:=6) ag,xA (a:=7) ag,xA (a:=8) ag,xA (a:=9) ag,xA (a:=10) ag,xA (a:=14) ag,xA (a:=18) ag,xA (a:=22) ag,z0,y0];unfold akK;show[67,65,73,82,78,49]++([b8 (le z 6 1:Nat),b8 (le z 7 1:Nat),b8 (le z 8 1:Nat),0]++(FI 4 (le z 10 4)++(FI 4 (le z 14 4)++(FI 4 qC.length++[0,0]))))=_;rw[q2];rfl
             have w2:afD (vZ.sh ⟨le z 6 1,le z 7 1,le z 8 1,le z 10 4,ns,zs,qC⟩)=part z 32 (le z 14 4):=apS;unfold wrB;rw[w2,hu,w1,<-s2,<-t2];show part z 0 32++part z 32 (le z 14 4+8)++D6 (le z 10 4) qC (nFr (le z 10 4) qC.length)++[68,79,78,69]=z;rw[<-aae c1 (le z 18 4) qC ag,<-q5];have v2':part z a 4=[68,79,78,69]:=v2;rw[<-v2'];have q3':32+le z 14 4+8<=a:=q3;rw[show part z 0 32=part z 0 (0+32)from rfl];have j1:=uy z 0 32 (le z 14 4+8);have j2:=uy z 0 (32+(le z 14 4+8)) (a-(32+le z 14 4+8));have j3:=uy z 0 a 4;simp only[bJ]at j1 j2 j3⊢;rw[<-j1];rw[show 32+(le z 14 4+8)=32+le z 14 4+8 by omega]at j2⊢;rw[<-j2,show 32+le z 14 4+8+(a-(32+le z 14 4+8))=a by omega,<-j3,show a+4=z.length by omega];unfold part;simp
   .cases h
end Go.Proofs.Y
namespace Go.Proofs.Y
open Go.RowKit Go.Deep Go.Lf Go.Conc Go.ConcN Go.Gh Go.Hp
structure ShG(d:vZ):Prop where
 fine:d.sh.Xc
 listed:d.sh.Listed
 few:d.sh.Few
 long:d.sh.ak_
theorem Ol{s t:vZ}(h:D7 s t=true):t.k=s.k/\t.n=s.n/\t.c=s.c/\t.names=s.names/\t.sizes=s.sizes:=by simp only[D7,fU,beq_iff_eq,iG]at h;obtain⟨⟨⟨⟨h1,h2⟩,h3⟩,h4⟩,h5⟩:=h;exact⟨ag,ag,ag,h4.symm,h5.symm⟩
theorem ShG.k1{d:vZ}(h:ShG d):1<=d.k/\d.k<=d.n/\d.n<=128/\d.i<d.n:=by obtain⟨⟨a1,a2,a3,a4,a5,a6,a7⟩,_,_,_⟩:=h;simp only[vZ.sh]at a1 a2 a3 a4 a5;omega
theorem ShG.Nb{d:vZ}(h:ShG d):d.sizes.sum<=65536:=by have:=h.few.bytes;rw[show d.sh.zs=d.sizes.map Int.ofNat from rfl,Tn]at this;exact this
theorem ShG.qC{d:vZ}(h:ShG d):d.qC.length=rO d.k d.sizes.sum:=by have:=h.long;unfold Sh.ak_ at this;rw[show d.sh.zs=d.sizes.map Int.ofNat from rfl,Tn,show d.sh.K.toNat=d.k from rfl]at this;exact this
theorem ShG.ln{d:vZ}(h:ShG d):d.names.length=d.sizes.length:=by have:=h.listed.len;simpa[vZ.sh]using this
theorem apv{n:Nat}{x:Nat->Nat}(h:∀i,i+1<n->x i<x (i+1)):∀j i,i<j->j<n->x i<x j
 |0,i,h1,_=>by omega
 |j+1,i,h1,h2=>by
  have:=h j h2;rcases bK i j with h3|h3
  .have:=apv h j i h3 ag;omega
  .obtain rfl:i=j:=ag;exact this
theorem aeE{n:Nat}{x:Nat->Nat}(h:∀i,i+1<n->x i<x (i+1)):∀j,j<n->j<=x j
 |0,_=>by omega
 |j+1,h1=>by have:=h j h1;have:=aeE h j ag;omega
def D8(M:Nat)(sh:Nat->vZ)(l:aj):Prop:=l.length=(sh 0).sizes.sum/\Xl (sh 0).k (rO (sh 0).k (sh 0).sizes.sum) M sh l
theorem anP{M:Nat}{sh:Nat->vZ}(hG:∀i,i<M->ShG (sh i))(QP:∀i,i+1<M->(sh i).i<=(sh (i+1)).i)(hE:G5 M sh 0):0<M/\DsH (sh 0).k (sh 0).n (rO (sh 0).k (sh 0).sizes.sum) (sh 0).sizes.sum M sh:=by
 rcases hE with⟨h,_⟩|⟨h,_⟩|⟨h,_⟩|⟨_,hA,hD,h0,hk⟩
 .cases h
 .cases h
 .cases h
 have hG0:=hG 0 h0;obtain⟨a1,a2,a3,a4⟩:=hG0.k1
 have uw:∀i,i+1<M->(sh i).i<(sh (i+1)).i:=λi hi=>by
  have:=QP i hi;have:(sh (i+1)).i≠(sh i).i:=λe=>hD ⟨i,hi,e⟩
  omega
 have VX:∀i,i<M->(sh i).i<(sh 0).n:=λi hi=>by have:=(hG i hi).k1.2.2.2;rw[(Ol (hA i hi)).2.1]at this;exact this
 have hMn:M<=128:=by have h1:=aeE uw (M-1) ag;have h2:=VX (M-1) ag;omega
 refine⟨h0,a1,a2,a3,hk,hMn,rfl,rfl,rfl,hG0.Nb,rfl,λi hi=>?_,VX,λi j hi hj hne e=>?_⟩
 .obtain⟨e1,_,_,_,e5⟩:=Ol (hA i hi);rw[(hG i hi).qC,e1,e5]
 .rcases bK i j with h|h
  .have:=apv uw j i h hj;omega
  .have:=apv uw i j ag hi;omega
def ala(M:Nat)(sh:Nat->vZ)(y:ai)(w:ah):Prop:=
 (∃e ev p,G5 M sh e/\e≠0/\y=.tuple #[.slice none 0 0,ev]/\sF w 1 ev e p)\/
 (G5 M sh 0/\(¬∃l,D8 M sh l)/\∃ev p,y=.tuple #[.slice none 0 0,ev]/\sF w 1 ev 13 p)\/
 (G5 M sh 0/\∃l gb vb,D8 M sh l/\(∀l',D8 M sh l'->l'=l)/\y=.tuple #[.slice (some ⟨gb,0,none⟩) (sh 0).names.length (sh 0).names.length,.nilIface]/\CB (sh 0).names (sh 0).sizes l gb (sh 0).names.length vb w)
theorem afE{Fin:Machine->Trace->Prop}(yP:∀m m' ops t,stepT Tryz.prog m=(.next m',ops)->Fin m' (t++ops)->Fin m t){X:Nat->Prop}{Y:Nat->aZ}{e:Nat}{gs:dD}{W v0:ah}{sl:Option (Nat×Nat)}{t:Trace}{qq:Nat->Nat}{fr:aS}{cs:aT}{M cap:Nat}{bo:aW}{sh:Nat->vZ}{vN vS vC:Nat->ai}
  (h0:gs[0]?=some (G ((base 10).at ⟨#[.slice bo M cap]++Array.replicate 34 undef,[]⟩ [.code xP]) (fr::cs))) (hB:LU Tryz.prog (wX X) e gs W t qq) (hs:rG X Y W v0)
  (hS:Tq v0 bo M sh vN vS vC) (hM:M<=1048576) (hG:∀i,i<M->ShG (sh i)) (he:e+256<2147483648)
  (qZ:∀(e':Nat)(g:Nat->Nat)(y:ai)(X':Nat->Prop)(QG:dD)(W':ah)(sl':Option (Nat×Nat))(t':Trace)(q':Nat->Nat)(Y':Nat->aZ)(v':ah),e'<=e+256->Prm M g->(∀i,i+1<M->(sh (g i)).i<=(sh (g (i+1))).i)->QG[0]?=some (G (fr.finish y) cs)->
   LU Tryz.prog (wX X') e' QG W' t' q'->rG X' Y' W' v'->(∀b,X b->X' b)->(∀b,X' b->X b\/W.heap.size<=b)->Sub v0 v'->KpX X W W'->ala M (λi=>sh (g i)) y v'->Fin (crowd QG W' sl') t'):
  Fin (crowd gs W sl) t:=by
 let St:aI->ah->Prop:=λgr W=>∃(T:aH)(g:Nat->Nat)(bs:aW)(cp:Nat)(v1:ah),TA1 (.slice bs M cp) T/\Prm M g/\(∀i,i+1<M->(sh (g i)).i<=(sh (g (i+1))).i)/\Tq v1 bs M (λi=>sh (g i)) (λi=>vN (g i)) (λi=>vS (g i)) (λi=>vC (g i))/\tX v0.heap.size v0 v1/\gr=G ((base 10).at ⟨T,[]⟩ [.code YK]) (fr::cs)/\rG X Y W v1
 have key:=anQ (Stop:=St) (Y:=Y) (cs:=fr::cs) (cap:=cap) (BV X) hS hM (λi hi=>by have:=(hG i hi).k1;omega) (λT g bs cp v1 a1 a2 a3 a4 a5 y hy=>.stop λd=>⟨T,g,bs,cp,v1,a1,a2,a3,a4,a5,rfl,hy.at d⟩);refine late (Fin:=Fin) (Shun:=wX X) (e:=e) yP (λ_ _ _ h=>h) (λgs1 a1 W1 sl1 t1 q1 h01 uw yQ=>?_) (key W hs) W.drawn gs sl t qq h0 hB;obtain⟨T,g,bs,cp,v1,hT,hP,QP,AZ,tV,rfl,Ai⟩:=uw W1.drawn;replace Ai:rG X Y W1 v1:=Ai;clear key uw;have NU:=Dl hs Ai tV;have T_:=xn tV;have hG1:∀i,i<M->ShG (sh (g i)):=λi hi=>hG _ (hP.lt i hi)
 obtain⟨err,hE⟩:=G5.some M (λi=>sh (g i));by_cases hz:err=0
 .subst hz;obtain⟨hM0,hH⟩:=anP (sh:=λi=>sh (g i)) hG1 QP hE
  let St2:aI->ah->Prop:=λgr W=>∃T2 v2,TA1 (.slice bs M cp) T2/\tX v1.heap.size v1 v2/\gr=G ((base 25).at ⟨#[.slice bs M cp]++Array.replicate 75 undef,[]⟩ [.code xQ]) (ahI T2::fr::cs)/\rG X Y W v2
  have alb:=apU (Stop:=St2) (Y:=Y) (cs:=fr::cs) (BV X) hT AZ hM hE (λT' w' a1 a2 y hy=>.stop λd=>⟨T',w',a1,a2,rfl,hy.at d⟩);refine late (Fin:=Fin) (Shun:=wX X) (e:=e) yP (λ_ _ _ h=>h) (λgs2 a2 W2 sl2 t2 q2 h02 uw zJ=>?_) (alb W1 Ai) W1.drawn gs1 sl1 t1 q1 h01 yQ;obtain⟨T2,v2,VY,rq,rfl,Gn⟩:=uw W2.drawn;replace Gn:rG X Y W2 v2:=Gn;clear alb uw;have SY:=Dl Ai Gn rq;have Jc:=AZ.xG rq;have hkn:=hH.kn;have hn1:=hH.n1;refine afF yP h02 zJ Gn hH Jc ag ?_;intro e3 l vd y X3 gs3 W3 sl3 t3 q3 Y3 v3 he3 hl3 h03 F8 zM hX1 RQ aaf hk3 hLd hDd hR;have anR:Sub v0 v3:=T_.trans ((xn rq).trans aaf);have vV:=SY.size;have wW:=NU.size;have arH:KpX X W W3:=(NU.trans SY λx hx=>.inl hx).trans hk3 λx hx=>.inl hx
  have hX3:∀b,X3 b->X b\/W.heap.size<=b:=λb hb=>(RQ b hb).imp id λh=>ag
  have fin:∀(y:ai)(v4:ah),tX v3.heap.size v3 v4->ala M (λi=>sh (g i)) y v4->∀Yv W4 sl4 t4 q4,Yv[0]?=some (G (fr.finish y) cs)->LU Tryz.prog (wX X3) e3 Yv W4 t4 q4->rG X3 Y3 W4 v4->Fin (crowd Yv W4 sl4) t4:=λy v4 Xe hA Yv W4 sl4 t4 q4 h04 xX Yw=>
   qZ e3 g y X3 Yv W4 sl4 t4 q4 Y3 v4 ag hP QP h04 xX Yw hX1 hX3 (anR.trans (xn Xe)) (arH.trans (Dl zM Yw Xe) hX3) hA
  let St4:aI->ah->Prop:=λgr W=>∃y v4,tX v3.heap.size v3 v4/\ala M (λi=>sh (g i)) y v4/\gr=G (fr.finish y) cs/\rG X3 Y3 W v4
  rcases hR with⟨rfl,apV,hun⟩|⟨ev,p,rfl,Yx,PK⟩
  .have YL:=aeF (Stop:=St4) (Y:=Y3) (cs:=fr::cs) (w:=v3) (vd:=vd) (ve:=.nilIface) (BV X3) VY (λT4 hT4=>FN.2 (anS (Stop:=St4) (l:=l) (BV X3) hT4 (Jc.sub aaf) hM0 hLd (by rw[hl3];exact hDd) (hG1 0 hM0).ln hl3.symm (by have:=hH.t1;omega) (λgb vb w' b1 b2 _ z hz=>.stop λd=>⟨_,w',b2,.inr (.inr ⟨hE,l,gb,vb,⟨hl3,apV⟩,λl' h'=>hun l' h'.1 h'.2,rfl,b1⟩),rfl,hz.at d⟩)));exact ayE
  .have YL:=aeF (Stop:=St4) (Y:=Y3) (cs:=fr::cs) (w:=v3) (vd:=.slice none 0 0) (ve:=ev) (BV X3) VY (λT4 hT4=>FN.2 (anT (Stop:=St4) (BV X3) hT4 Yx (λev' w' b1 b2 z hz=>.stop λd=>⟨_,w',b2,.inr (.inl ⟨hE,PK,ev',p,rfl,b1⟩),rfl,hz.at d⟩)));exact ayE
 .let St4:aI->ah->Prop:=λgr W=>∃y v4,tX v1.heap.size v1 v4/\ala M (λi=>sh (g i)) y v4/\gr=G (fr.finish y) cs/\rG X Y W v4
  have YL:=apW (Stop:=St4) (Y:=Y) (cs:=cs) (fr:=fr) (BV X) hT AZ hM hE hz (λev p w' b1 b2 z hz'=>.stop λd=>⟨_,w',b2,.inl ⟨err,ev,p,hE,hz,rfl,b1⟩,rfl,hz'.at d⟩);refine late (Fin:=Fin) (Shun:=wX X) (e:=e) yP (λ_ _ _ h=>h) (λYv a4 W4 sl4 t4 q4 h04 uw xX=>?_) (YL W1 Ai) W1.drawn gs1 sl1 t1 q1 h01 yQ;obtain⟨y,v4,b1,b2,rfl,b3⟩:=uw W4.drawn;replace b3:rG X Y W4 v4:=b3;exact qZ e g y X Yv W4 sl4 t4 q4 Y v4 ag hP QP h04 xX b3 (λ_ h=>h) (λ_ h=>.inl h) (T_.trans (xn b1)) (NU.trans (Dl Ai b3 b1) λx hx=>.inl hx) b2
end Go.Proofs.Y
namespace Go.Proofs.Y
open Go.RowKit Go.Deep Go.Lf Go.Conc Go.Hp
noncomputable def yj:Code:=Tryz.f5.body.getD .skip
noncomputable def aag:Code:=rX (rX (rX (rX yj)))
noncomputable def acH:Code:=rX aag
theorem afG:yj=.seq (sZ yj) (.seq (sZ (rX yj)) (.seq (sZ (rX (rX yj))) (.seq (sZ (rX (rX (rX yj)))) aag))):=ak
noncomputable def YM:{y:Array Oper//y=zt (sZ aag)}:=⟨_,by(simp only[aag,yj,sZ,rX,zt,Tryz.f5,bf];rfl)⟩
noncomputable def R_:Array Oper:=YM.1
theorem alc:aag=.seq (.region 11 R_ false) acH:=ak
theorem afH:R_.size=7:=ak
theorem ald:∃fn,Tryz.prog.funcs[5]?=some fn:=⟨_,Tryz.func5⟩
def Tdc(f:Nat->ai)(a0 a5 a6 a12 a13:ai):aH:=#[a0,f 1,f 2,f 3,f 4,a5,a6,f 7,f 8,f 9,f 10,f 11,a12,a13,f 14,f 15,f 16,f 17,f 18,f 19,f 20,f 21,f 22,f 23,f 24,f 25,f 26,f 27,f 28,f 29,f 30,f 31,f 32,f 33,f 34,f 35,f 36,f 37,f 38,f 39,f 40,f 41,f 42,f 43,f 44,f 45,f 46,f 47,f 48,f 49,f 50,f 51,f 52,f 53,f 54,f 55]
abbrev apX(T:aH):aH:=Tdc (λi=>T.getD i undef) (T.getD 0 undef) (T.getD 5 undef) (T.getD 6 undef) (T.getD 12 undef) (T.getD 13 undef)
theorem acI{T:aH}(h:T=apX T):T=apX T:=h
def TE1(gv n:Nat)(vt:ai)(T:aH):Prop:=∃f:Nat->ai,T=Tdc f (f 0) (.slice (some ⟨gv,0,none⟩) n n) vt (f 12) (f 13)
def TE2(gv n:Nat)(vb ve:ai)(T:aH):Prop:=∃f:Nat->ai,T=Tdc f (f 0) (.slice (some ⟨gv,0,none⟩) n n) (f 6) vb ve
noncomputable def ahJ(T:aH):aS:=(base 5).at ⟨T,[]⟩ (.inRegion R_ [1,2,3,4,5,6]::[.code acH])
def okS(l:aj):Option vZ:=match qN l with| .ok s=>some s| .error _=>none
def Ua(l:aj):Nat:=match qN l with| .ok _=>0| .error e=>e.1
def CS(bs:Nat->aj)(j:Nat):List vZ:=(List.range j).filterMap λi=>okS (bs i)
theorem ahK{bs:Nat->aj}{j:Nat}{s:vZ}(h:qN (bs j)=.ok s):CS bs (j+1)=CS bs j++[s]:=by simp[CS,dP,okS,h]
theorem ahL{bs:Nat->aj}{j:Nat}{e:Nat×Nat}(h:qN (bs j)=.error e):CS bs (j+1)=CS bs j:=by simp[CS,dP,okS,h]
def shD:vZ:=⟨0,0,0,0,[],[],[]⟩
def xR(ts:List vZ)(i:Nat):vZ:=ts.getD i shD
theorem aah{ts:List vZ}{s:vZ}{i:Nat}(h:i<ts.length):xR (ts++[s]) i=xR ts i:=by simp[xR,ig h]
theorem aai{ts:List vZ}{s:vZ}:xR (ts++[s]) ts.length=s:=by simp[xR]
def IL(S:Nat->aK)(n:Nat):aK:=(List.range n).flatMap S
theorem G6(S:Nat->aK)(n:Nat):IL S (n+1)=IL S n++S n:=by simp[IL,dP]
theorem aaj{S S':Nat->aK}{n:Nat}(h:∀i,i<n->S i=S' i):IL S n=IL S' n:=by
 induction n with
 |zero=>rfl
 |succ n ih=>rw[G6,G6,ih λi hi=>h i ag,h n ag]
structure Tk(B:Nat)(ts:List vZ)(vN vS vC:Nat->ai)(vt:ai)(w:ah):Prop where
 own:w.ownsRow B 41 7 vt ts.length (IL (λi=>Me (xR ts i) (vN i) (vS i) (vC i)) ts.length)
 nm:∀i,i<ts.length->w.ownsRow B 9 1 (vN i) (xR ts i).names.length (uU (xR ts i).names)
 sz:∀i,i<ts.length->w.ownsRow B 3 1 (vS i) (xR ts i).sizes.length (uH (xR ts i).sizes)
 cl:∀i,i<ts.length->w.ownsRow B 5 1 (vC i) (xR ts i).qC.length (rP (xR ts i).qC)
theorem Tk.Ag{B:Nat}{ts:List vZ}{vN vS vC:Nat->ai}{vt:ai}{w w':ah}(h:Tk B ts vN vS vC vt w)(hk:∀b,B<=b->b<w.heap.size->w'.heap[b]?=w.heap[b]?):Tk B ts vN vS vC vt w':=
 ⟨qH h.own λg hg=>hk g (h.own.lt g hg).1 (h.own.lt g hg).2,λi hi=>qH (h.nm i hi) λg hg=>hk g ((h.nm i hi).lt g hg).1 ((h.nm i hi).lt g hg).2,
  λi hi=>qH (h.sz i hi) λg hg=>hk g ((h.sz i hi).lt g hg).1 ((h.sz i hi).lt g hg).2,λi hi=>qH (h.cl i hi) λg hg=>hk g ((h.cl i hi).lt g hg).1 ((h.cl i hi).lt g hg).2⟩
theorem Tk.more{B:Nat}{ts:List vZ}{vN vS vC:Nat->ai}{vt v':ai}{w w':ah}{s:vZ}{xN xS xC:ai}(h:Tk B ts vN vS vC vt w)(hN:w.ownsRow B 9 1 xN s.names.length (uU s.names))(hS:w.ownsRow B 3 1 xS s.sizes.length (uH s.sizes))(hC:w.ownsRow B 5 1 xC s.qC.length (rP s.qC))
  (hg:w.grownBy w' vt.ownBlock) (ho:w'.ownsRow B 41 7 v' (ts.length+1) (IL (λi=>Me (xR ts i) (vN i) (vS i) (vC i)) ts.length++Me s xN xS xC)):
  Tk B (ts++[s]) (λi=>if i=ts.length then xN else vN i) (λi=>if i=ts.length then xS else vS i) (λi=>if i=ts.length then xC else vC i) v' w':=by
 have key:∀{t n:Nat}{v:ai}{xs:aK},w.ownsRow B t 1 v n xs->t≠41->w'.ownsRow B t 1 v n xs:=λ{t n v xs} o ht=>qH o λg um=>hg.block g (o.lt g um).2 (λe=>x8 o h.own ht um e.symm);have hl:(ts++[s]).length=ts.length+1:=aA;refine⟨?_,λi hi=>?_,λi hi=>?_,λi hi=>?_⟩
 .rw[hl,G6,aaj (S':=λi=>Me (xR ts i) (vN i) (vS i) (vC i)) λi hi=>by simp only[au (show i≠ts.length by omega),aah hi]];simp only[aY,aai];exact ho
 all_goals
  by_cases e:i=ts.length
  .subst e;simp only[aY,aai]
   first|exact key hN aB|exact key hS aB|exact key hC aB
  .have IC:i<ts.length:=ag;simp only[au e,aah IC]
   first|exact key (h.nm i IC) aB|exact key (h.sz i IC) aB|exact key (h.cl i IC) aB
theorem Tk.sds{B:Nat}{ts:List vZ}{vN vS vC:Nat->ai}{vt:ai}{w:ah}(h:Tk B ts vN vS vC vt w)(hG:∀s∈ts,ShG s):∃bo cap,vt=.slice bo ts.length cap/\Tq w bo ts.length (xR ts) vN vS vC:=by
 have hG':∀i,i<ts.length->ShG (xR ts i):=λi hi=>hG _ (by simp[xR,bQ hi])
 have hv:∃bs cp,vt=.slice bs ts.length cp/\(0<ts.length->∃g,bs=some ⟨g,0,none⟩):=by
  rcases h.own.2 with⟨h1,h0⟩|⟨g,c,_,h1,_⟩
  .exact⟨none,0,by rw[h1,h0],λh=>ag⟩
  .exact⟨_,c,h1,λ_=>⟨g,rfl⟩⟩
 obtain⟨bs,cp,rfl,BR⟩:=hv
 have Je:∀i,i<ts.length->(xR ts i).names.length<=1048576/\(xR ts i).sizes.length<=1048576:=λi hi=>by have h1:=(hG' i hi).few.ang;have h2:=(hG' i hi).ln;simp only[vZ.sh]at h1;omega
 refine⟨bs,cp,rfl,λhn=>?_,λi hi=>⟨qP.owned (h.nm i hi),(Je i hi).1⟩,λi hi=>⟨qP.owned (h.sz i hi),(Je i hi).2⟩,λi hi=>qP.owned (h.cl i hi),λi hi=>by have:=(hG' i hi).k1;omega⟩;obtain⟨g,rfl⟩:=BR hn;have hr:∀i,i<ts.length->w.rangeAt g (i*7) (Me (xR ts i) (vN i) (vS i) (vC i)):=λi hi=>xK (c:=λe=>Me (xR ts e.l) (vN e.l) (vS e.l) (vC e.l)) (f:=λi=>⟨[],none,i,0⟩) (λ_=>rfl) h.own hi
 exact⟨g,0,rfl,rY (hr 0 hn 0 _ rfl),λi hi=>by rw[bJ];exact hr i hi⟩
theorem V8{z:aj}{s:vZ}(h:qN z=.ok s):ShG s:=by obtain⟨h1,h2,h3,h4,_⟩:=afA h;exact⟨h1,h2,h3,h4⟩
theorem Jj(bs:Nat->aj)(j:Nat):∀s∈CS bs j,ShG s:=λs hs=>by
 obtain⟨i,_,h⟩:=List.mem_filterMap.1 hs;unfold okS at h;split at h
 .rename_i s' hp;cases h;exact V8 hp
 .cases h
theorem Tt(bs:Nat->aj)(j:Nat):(CS bs j).length<=j:=by have:=List.length_filterMap_le (λi=>okS (bs i)) (List.range j);simpa[CS]using this
end Go.Proofs.Y
namespace Go.Proofs.Y
open Go.RowKit Go.Deep Go.Hp
def YN(i:Nat):aj:=[98,UInt8.ofNat (97+i)]
theorem ahM{i j:Nat}(hi:i<26)(hj:j<26)(h:YN i=YN j):i=j:=by
 have e:UInt8.ofNat (97+i)=UInt8.ofNat (97+j):=by unfold YN at h;simpa using h
 have:=bI UInt8.toNat e;rw[jy,jy,dB ag,dB ag]at this;omega
theorem afI{m:Nat}{f:Nat->rU}{xs:Nat->Nat}(hx:∀i,i<m->xs i<26)(hd:∀i j,i<j->j<m->xs i≠xs j)(hk:∀i,i<m->(f i).k=YN (xs i)):yt m f:=
 ⟨λi hi=>by rw[hk i hi];exact⟨by simp[YN],by simp[YN]⟩,λi j h1 h2 e=>hd i j h1 h2 (ahM (hx i ag) (hx j h2) (by rw[<-hk i ag,<-hk j h2];exact e))⟩
structure ArI(h:Nat)(w:ah)(i:Nat)(f:Nat->rU)(D:Nat->aj)(va:ai)(wr:ah):Prop where
 own:wr.ownsRow h 63 2 va i (tY i f)
 nm:∀j,j<i->(f j).k=YN j
 len:∀j,j<i->(D j).length<14
 dat:∀j,j<i->∃B,wr.ownsRow B 5 1 (f j).d (D j).length (rP (D j))
 xG:Below h w wr
structure BlI(i pb:Nat)(w:ah)(L:aj)(vd:ai)(wq:ah):Prop where
 row:ql wq pb [Np (YN i),vd] 63
 own:wq.ownsRow (pb+1) 5 1 vd L.length (rP L)
 xG:Below w.heap.size w wq
 pb:w.heap.size<=pb
end Go.Proofs.Y
namespace Go.Proofs.Y
open Go.RowKit Go.Deep Go.Lf Go.Conc Go.Hp
def turn(f:Nat->rU)(xs:aC):Nat->rU:=λj=>f (xs.getD j 0)
structure SmP(K N C m:Nat)(f:Nat->rU)(D:Nat->aj)(pb:Nat)(vb:ai)(w:ah):Prop where
 par:ql w pb [.int .i64 ((K:Nat):Int),.int .i64 ((N:Nat):Int),.int .i64 ((C:Nat):Int)] 60
 own:∃B,w.ownsRow B 63 2 vb m (tY m f)
 nm:∀j,j<m->(f j).k=YN j
 len:∀j,j<m->(D j).length<14
 dat:∀j,j<m->∃B,w.ownsRow B 5 1 (f j).d (D j).length (rP (D j))
 hm:m<=5
structure SmS(h0 K N C m:Nat)(f:Nat->rU)(D:Nat->aj)(xs:aC)(pb:Nat)(vb vt:ai)(w:ah):Prop where
 pre:SmP K N C m f D pb vb w
 owt:∃B,h0<=B/\w.ownsRow B 63 2 vt m (tY m (turn f xs))
 once:asQ m xs
section
variable {X:Nat->Prop}{Y:Nat->aZ}{D:Nat->ah->aN->Prop}{Stop:aI->ah->Prop}{w:ah}
end
theorem ahN{w w':ah}{B e z n:Nat}{v:ai}{xs:aK}(h:w.ownsRow B e z v n xs)(hs:Sub w w'):w'.ownsRow B e z v n xs:=by
 refine⟨h.1,?_⟩;rcases h.2 with h1|⟨g,cap,cur,h1,h2,h3,h4⟩
 .exact .inl h1
 .exact .inr ⟨g,cap,cur,h1,h2,hs.2 _ _ _ _ h3,h4⟩
section
variable {h0 K N C m:Nat}{f:Nat->rU}{D:Nat->aj}{xs:aC}{pb:Nat}{vb vt:ai}{w:ah}
theorem SmP.fits(h:SmP K N C m f D pb vb w):yt m f:=afI (xs:=id) (λi hi=>by have:=h.hm;show i<26;omega) (λi j h1 h2=>by show i≠j;omega) h.nm
end
theorem ale{n:Nat}{f g:Nat->rU}(hR:qX n f g)(h:yt n f):yt n g:=by
 refine⟨λi hi=>?_,λi j h1 h2 e=>?_⟩
 .obtain⟨j,hj,e⟩:=hR.from hi;rw[e];exact h.1 j hj
 .obtain⟨i',j',a1,a2,a3,a4,a5⟩:=hR.two (i:=i) (j:=j) ag h2 ag;rw[a4,a5]at e;rcases bK i' j' with qB|NV
  .exact h.2 i' j' qB a2 e
  .exact h.2 j' i' ag a1 e.symm
theorem afJ{n:Nat}{g:Nat->rU}(hS:Om n g)(h:yt n g):∀i,i+1<n->Hp.lt (g i).k (g (i+1)).k=true:=λi hi=>by
 have h1:=hS i hi;rcases Hp.Jk (g i).k (g (i+1)).k with⟨h2,_,_⟩|⟨h2,_,_⟩|⟨h2,_,_⟩
 .exact h2
 .have h1':Hp.lt (g (i+1)).k (g i).k=false:=h1;rw[h1']at h2;cases h2
 .exact absurd h2 (h.2 i (i+1) ag hi)
theorem aak{n:Nat}{f g g':Nat->rU}(h:yt n f)(a:qX n f g)(b:qX n f g')(hg:Om n g)(um:Om n g'):∀i,i<n->g' i=g i:=
 acJ a b (afJ hg (ale a h)) um
section
open Go.Conc
variable {P:aP}{X:Nat->Prop}{Y:Nat->aZ}{D:Nat->ah->aN->Prop}{Stop:aI->ah->Prop}{f:aU}{v:ah}
theorem afK(hD0:zN X D){T:aH}{k:dh}{fn:Func}(hf:P.funcs[f]?=some fn)(VN:P.inits.idxOf? f=none){y:ai}(F9:∀u,(results fn T).runT P u #[]=(.ok y u,#[]))
  (h:∀w d,rG X Y w v->(∀d',stepG P true (G {Dn none [] f T (.code .ret::k)with mode:=.returning} []) (w.at d')=.ended (.done y) (w.at d') #[])->Stop (G {Dn none [] f T (.code .ret::k)with mode:=.returning} []) (w.at d)):yu P X Y D Stop none [] f [] (.code .ret::k) T v:=by
 intro w hs;refine .next rfl λd=>⟨G {Dn none [] f T (.code .ret::k)with mode:=.returning} [],w.at d,#[],rfl,hD0.nil (ay _),?_⟩
 have eA:∀u,stepG P true (G {Dn none [] f T (.code .ret::k)with mode:=.returning} []) u=.ended (.done y) u #[]:=λu=>by have:=F9 u;simp only[G,stepG,unwind,Dn,hf,this,seen_none,doReturn,VN,jD,dm,bU,GStep.after,Array.append_empty]
 exact .stop λd'=>h w d' hs λd''=>eA _
end
end Go.Proofs.Y
namespace Go.Proofs.Y
open Go.RowKit Go.Deep
end Go.Proofs.Y
namespace Go.Proofs.Y
open Go.RowKit Go.Deep Go.Lf Go.Conc Go.Hp
theorem yw{k i:Nat}{x:Nat->Nat}(hi:i<k)(hx:∀j,x j<256):∀n,A7 (sN k i) x n=if i<n then x i else 0
 |0=>rfl
 |n+1=>by
  show A7 (sN k i) x n^^^mul (sN k i n) (x n)=_;rw[yw hi hx n];have hr:sN k i n=if n=i then 1 else 0:=by unfold sN;rw[ax hi]
  rw[hr];by_cases e:n=i
  .subst e;rw[ax rfl,au ag,ax ag,mul_comm ag (hx n),mul_one (hx n),Nat.zero_xor]
  .rw[au e,zero_mul,lU];by_cases q:i<n
   .rw[ax q,ax ag]
   .rw[au q,au ag]
