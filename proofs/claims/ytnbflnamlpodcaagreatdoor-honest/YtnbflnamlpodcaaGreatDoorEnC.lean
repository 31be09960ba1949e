import Derived.Test.YtnbflnamlpodcaaGreatDoorSumW
set_option maxHeartbeats 4000000
set_option maxRecDepth 100000
namespace Go.Proofs.Y
open Go.Proofs.Tryz
open Go.RowKit Go.Deep
theorem Eu{a b:Bool}(h:a=b):Ending.returned (.bool a)=.returned (.bool b):=jP
theorem aga(n:Int)(hn: -9223372036854775808<=n/\n<=9223372036854775807):wrap64 n=n:=(IntWalk.i64_left n).symm.trans (fM n hn)
theorem FP(K T:Int)(k t:Nat)(hK:K=k)(hT:T=t)(hk:1<=k)(P7:k<=255)(ht:t<=65536)(w:ah):
  Calls prog 77 #[.int .i64 K,.int .i64 T] w λr w'=>r=.returned (.int .i64 (ug k t:Nat))/\w'=w:=by
 subst hK hT
 have W1:Hid (((t:Int)+(k:Int)-1)/(k:Int)=(ug k t:Nat)):=by show((t:Int)+(k:Int)-1)/(k:Int)=(ug k t:Nat);rw[show(t:Int)+(k:Int)-1=((t+k-1:Nat):Int)by omega,<-Int.natCast_ediv];rfl
 go_enter func77,ntmps77;go_wp2;go_ret;exact⟨FV (by rw[W1.out]),rfl⟩
def MP(r:Ending)(p:Prop):Prop:=∃b:Bool,r=.returned (.bool b)/\(b=true↔p)
theorem Ls{r:Ending}{p:Prop}(h:r=.returned (.bool true))(hp:p):MP r p:=⟨true,h,avk⟩
theorem zI{r:Ending}{p:Prop}(h:r=.returned (.bool false))(hp:¬p):MP r p:=⟨false,h,avk⟩
theorem MP.yes{r:Ending}{p:Prop}(h:MP r p)(hp:p):r=.returned (.bool true):=by obtain⟨b,rfl,hb⟩:=h;rw[hb.2 hp]
theorem MP.no{r:Ending}{p:Prop}(h:MP r p)(hp:¬p):r=.returned (.bool false):=by
 obtain⟨b,rfl,hb⟩:=h;cases b
 .rfl
 .exact absurd (hb.1 rfl) hp
def U8(l:ak)(F:Int)(r:Ending):Prop:=∃x:Int,r=.returned (.int .i64 x)/\((x= -1/\∀m:Nat,F<=(m:Int)->m<l.length->tZ l m=0)\/∃m:Nat,x=(m:Int)/\F<=(m:Int)/\m<l.length/\tZ l m≠0/\∀m':Nat,m'<m->F<=(m':Int)->tZ l m'=0)
theorem ZL(F:Int)(hF: -1000000000000<=F/\F<=1000000000000)(v:ai)(l:ak)(hl:l.length<=9223372036854775807)(w:ah)(h:qU w v (sJ l)):
  Calls prog 139 #[v,.int .i64 F] w λr w'=>w'=w/\U8 l F r:=by
 obtain⟨ba,cap,rfl,Ci,hc⟩:=h;rw[sZ]at Ci⊢;obtain⟨f,hf⟩:∃f:Nat,f=F.toNat:=⟨_,rfl⟩;have hmax:max (0:Int) F=(f:Int):=ag;have hfb:f<=1000000000000:=ag;go_enter func139,ntmps139;go_wp2
 all_goals
  go_loop [5] (λvi=>∃c:Nat,f<=c/\(c<=l.length\/c=f)/\vi=.int .i64 (c:Int)/\∀m:Nat,m<c->F<=(m:Int)->m<l.length->tZ l m=0) (λi=>l.length-(intOf i).toNat)
  case atStart=>exact⟨f,az _,.inr rfl,by congr 1;omega,λm hm hm2 _=>ag⟩
  case round=>
   obtain⟨c,hfc,Md,rfl,hz⟩:=hrel;by_cases qK:c<l.length
   .obtain⟨b,off,rfl,hcell⟩:=hc c _ (wJ qK);have hb:=EG l c;obtain⟨y,ey⟩:∃y,tZ l c=y:=⟨_,rfl⟩;rw[ey]at hcell hb;have HY:Hid (tZ l c=y):=ey;have HZ:Hid _:=hz;have HF:Hid (f=F.toNat):=hf;clear ey hz hc hmax hf hfb;by_cases hy:y=0
    .subst hy;go_wp2
     go_round
     case rel=>
      refine⟨c+1,ag,.inl ag,bU,λm hm hm2 hm3=>?_⟩;rcases bJ m c with h1|h1
      .exact HZ.out m h1 hm2 hm3
      .obtain rfl:m=c:=ag;exact HY.out
     case measure=>simp[intOf];omega
    .have hy':((y:Int)==0)=false:=aS;have hy2:((y:Int) != 0)=true:=aS;go_wp2;go_ret;refine⟨rfl,_,rfl,.inr ⟨c,rfl,?_,qK,?_,λm' h1 h2=>HZ.out m' h1 h2 ag⟩⟩
     .have:=HF.out;omega
     .rw[HY.out];exact hy
   .clear hc;have HZ:Hid _:=hz;clear hz;go_wp2;go_ret;exact⟨rfl,_,rfl,.inl ⟨rfl,λm h1 h2=>HZ.out m ag h1 h2⟩⟩
theorem ZM(v:ai)(zs:di)(hl:zs.length<=9223372036854775807)(hz:O0 zs)(w:ah)(h:qU w v (Gf zs)):
  Calls prog 43 #[v] w λr w'=>w'=w/\MP r (Fv zs<=65536):=by
 obtain⟨ba,cap,rfl,Ci,hc⟩:=h;rw[FU]at Ci⊢;go_enter func43,ntmps43;go_wp2
 go_loop [3,5,8] (λvr _ vi=>∃c r:Nat,c<=zs.length/\vi=.int .i64 (c:Int)/\vr=.int .i64 (r:Int)/\Hid (r+zJ zs c=65536)) (λ_ _ i=>zs.length-(intOf i).toNat)
 case atStart=>exact⟨0,65536,ag,rfl,rfl,by show _=_;simp[zJ]⟩
 case round=>
  obtain⟨c,r,Md,rfl,rfl,H⟩:=hrel;have hr:r<=65536:=by have:=H.out;omega
  by_cases qK:c<zs.length
  .obtain⟨b,off,rfl,hcell⟩:=hc c _ (ZN qK);have hzc:=hz c qK;obtain⟨z,ez⟩:∃z:Nat,zs.getD c 0=(z:Int):=⟨(zs.getD c 0).toNat,ag⟩
   have H2:Hid (zJ zs (c+1)=zJ zs c+z):=by show _=_;rw[Ia,ez];simp
   have H3:Hid (zJ zs (c+1)<=Fv zs):=U9 zs ag;rw[ez]at hcell;clear ez hzc hc hz;by_cases anM:r<z
   .have HT:Hid (¬Fv zs<=65536):=by
     show¬_;have:=H.out;have:=H2.out;have:=H3.out;omega
    clear H H2 H3;go_wp2;go_ret;exact⟨rfl,zI rfl HT.out⟩
   .have hle:z<=r:=ag
    have G:Hid (r-z+zJ zs (c+1)=65536):=by show _=_;have:=H.out;have:=H2.out;omega
    clear H H2 H3;go_wp2
    go_round
    case rel=>exact⟨c+1,r-z,ag,bU,bU,G⟩
    case measure=>simp[intOf];omega
  .have e:c=zs.length:=ag
   have HT:Hid (Fv zs<=65536):=by show _<=_;have:=H.out;rw[e,QG]at this;omega
   clear H hc;go_wp2;go_ret;exact⟨rfl,Ls rfl HT.out⟩
theorem BM(ns:List (ak))(hn:xk ns):∀i,i<=ns.length->Dz ns i<=4+261*i
 |0,_=>by simp[Dz]
 |i+1,h=>by have h1:=BM ns hn i ag;have h2:=(hn i ag).1.2;rw[RY];omega
theorem RZ(v:ai)(ns:List (ak))(hl:ns.length<=1000)(hn:xk ns)(w:ah)(h:qU w v (xe ns)):
  Calls prog 44 #[v] w λr w'=>r=.returned (.int .i64 (Jp ns:Nat))/\w'=w:=by
 obtain⟨ba,cap,rfl,Ci,hc⟩:=h;rw[wL]at Ci⊢;go_enter func44,ntmps44;go_wp2
 go_loop [3,5,8] (λvr _ vi=>∃c r:Nat,c<=ns.length/\vi=.int .i64 (c:Int)/\vr=.int .i64 (r:Int)/\Hid (Dz ns c=r)) (λ_ _ i=>ns.length-(intOf i).toNat)
 case atStart=>exact⟨0,4,ag,rfl,rfl,by show _=_;simp[Dz]⟩
 case round=>
  obtain⟨c,r,Md,rfl,rfl,H⟩:=hrel;by_cases qK:c<ns.length
  .obtain⟨b,off,rfl,hcell⟩:=hc c _ (GV qK);have hzc:=(hn c qK).1;have hr:r<=300000:=by have:=BM ns hn c ag;rw[H.out]at this;omega
   obtain⟨s,es⟩:∃s,ns.getD c []=s:=⟨_,rfl⟩
   have H2:Hid (Dz ns (c+1)=r+6+s.length):=by show _=_;rw[RY,es,H.out]
   rw[es]at hcell hzc;have hsz:(ByteArray.mk s.toArray).size=s.length:=by simp[ByteArray.size]
   clear es hc hn H;go_wp2
   go_round
   case rel=>exact⟨c+1,r+6+s.length,ag,bU,bU,H2⟩
   case measure=>simp[intOf];omega
  .have e:c=ns.length:=ag
   have HT:Hid (Jp ns=r):=by show _=_;rw[<-NI,<-e];exact H.out
   clear H hc;go_wp2;go_ret;exact⟨FV (by rw[HT.out]),rfl⟩
theorem Uk(s:ak):(ByteArray.mk s.toArray).size=s.length:=by simp[ByteArray.size]
theorem ZO(s:ak)(h:1<=s.length/\s.length<=255)(w:ah):
  Calls prog 22 #[.string ⟨s.toArray⟩] w λr w'=>r=.returned (.bool true)/\w'=w:=by
 have hsz:=Uk s;go_enter func22,ntmps22;go_wp2;go_ret;exact⟨Eu aS,rfl⟩
theorem abo(s:ak)(h:¬(1<=s.length/\s.length<=255))(hs:s.length<=9223372036854775807)(w:ah):
  Calls prog 22 #[.string ⟨s.toArray⟩] w λr w'=>r=.returned (.bool false)/\w'=w:=by
 have hsz:=Uk s;rcases fE s.length with h0|h0
 .rw[h0]at hsz;clear h h0;go_enter func22,ntmps22;exact ayj
 .have h1:255<s.length:=ag;clear h;go_enter func22,ntmps22;go_wp2;go_ret;exact⟨Eu aS,rfl⟩
def U_(ns:List (ak))(zs:di):Prop:=ns.length=zs.length/\xk ns/\O0 zs
def MK(ns:List (ak))(zs:di):Prop:=ns.length<=1000/\Fv zs<=65536/\Jp ns<=300000
theorem TG(vN vS:ai)(ns:List (ak))(zs:di)(hn:ns.length<=9223372036854775807)(hzl:zs.length<=9223372036854775807)(Em:U_ ns zs)(w:ah)(h1:qU w vN (xe ns))(h2:qU w vS (Gf zs)):
  Calls prog 27 #[vN,vS] w λr w'=>w'=w/\MP r (MK ns zs):=by
 obtain⟨ba,cap,rfl,Ci,hc⟩:=id h1;rw[wL]at Ci h1⊢;by_cases q1:ns.length<=1000
 .have K1:=ZM vS zs hzl Em.2.2 w h2;by_cases q2:Fv zs<=65536
  .have K2:=RZ _ ns q1 Em.2.1 w h1;obtain⟨m,em⟩:∃m,Jp ns=m:=⟨_,rfl⟩;have EM:Hid (Jp ns=m):=em;rw[em]at K2
   have hm:m<=1000000000:=by exact azz
   have Q2:Hid (Fv zs<=65536):=q2;clear h1 h2 hc em Em q2;go_enter func27,ntmps27
   go_wp2_with(first|(go_at_call 43;refine K1.mono ?_;rintro r w' ⟨uf,hb⟩;obtain rfl:=hb.yes Q2.out;obtain rfl:=uf.symm)|(go_at_call 44;refine K2.mono ?_;rintro r w' ⟨rfl,uf⟩;obtain rfl:=uf.symm))
   go_ret;by_cases q3:m<=300000
   .exact⟨rfl,Ls (Eu aS) ⟨q1,Q2.out,by rw[EM.out];exact q3⟩⟩
   .exact⟨rfl,zI (Eu aS) λh=>q3 (by have:=h.2.2;rw[EM.out]at this;exact this)⟩
  .have Q2:Hid (¬Fv zs<=65536):=q2;clear h1 h2 hc Em q2;go_enter func27,ntmps27
   go_wp2_with(first|(go_at_call 43;refine K1.mono ?_;rintro r w' ⟨uf,hb⟩;obtain rfl:=hb.no Q2.out;obtain rfl:=uf.symm))
   go_ret;exact⟨rfl,zI rfl λh=>Q2.out h.2.1⟩
 .clear h1 h2 hc;go_enter func27,ntmps27;go_wp2;go_ret;exact⟨rfl,zI rfl λh=>q1 h.1⟩
def CJ(k n:Int):Prop:=1<=k/\k<=n/\n<=128
theorem CQ(k n:Int)(w:ah):
  Calls prog 21 #[.int .i64 k,.int .i64 n] w λe w'=>w'=w/\MP e (CJ k n):=by
 by_cases h1:1<=k
 .by_cases h2:k<=n
  .by_cases h3:n<=128
   .have HF:Hid (CJ k n):=⟨h1,h2,h3⟩;go_enter func21,ntmps21;go_wp2;go_ret;exact⟨rfl,Ls rfl HF.out⟩
   .have HF:Hid (¬CJ k n):=λh=>h3 h.2.2
    go_enter func21,ntmps21;exact ayX
  .have HF:Hid (¬CJ k n):=λh=>h2 h.2.1
   go_enter func21,ntmps21;exact ayX
 .have HF:Hid (¬CJ k n):=λh=>h1 h.1
  go_enter func21,ntmps21;exact ayX
def AQ(k n c:Int):Prop:=CJ k n/\1<=c/\c<=65536
theorem Xd(k n c:Int)(w:ah):
  Calls prog 15 #[.agg #[.int .i64 k,.int .i64 n,.int .i64 c]] w λe w'=>Below w.heap.size w w'/\MP e (AQ k n c):=by
 by_cases h1:CJ k n
 .have H1:Hid (CJ k n):=h1;clear h1;by_cases h2:1<=c
  .by_cases h3:c<=65536
   .go_enter func15,ntmps15
    go_wp2_with(first|(go_at_call 21;refine(CQ _ _ _).mono ?_;rintro r w' ⟨uf,hb⟩;obtain rfl:=hb.yes H1.out;obtain rfl:=uf.symm))
    go_ret;exact⟨by first|exact aT _ _|exact(aT _ _).alloc (az _) _,Ls rfl ⟨H1.out,h2,h3⟩⟩
   .go_enter func15,ntmps15
    go_wp2_with(first|(go_at_call 21;refine(CQ _ _ _).mono ?_;rintro r w' ⟨uf,hb⟩;obtain rfl:=hb.yes H1.out;obtain rfl:=uf.symm))
    go_ret;exact⟨by first|exact aT _ _|exact(aT _ _).alloc (az _) _,zI (Eu aS) λh=>by have:=h.2.2;omega⟩
  .go_enter func15,ntmps15
   go_wp2_with(first|(go_at_call 21;refine(CQ _ _ _).mono ?_;rintro r w' ⟨uf,hb⟩;obtain rfl:=hb.yes H1.out;obtain rfl:=uf.symm))
   go_ret;exact⟨by first|exact aT _ _|exact(aT _ _).alloc (az _) _,zI rfl λh=>by have:=h.2.1;omega⟩
 .have H1:Hid (¬CJ k n):=h1;clear h1;go_enter func15,ntmps15
  go_wp2_with(first|(go_at_call 21;refine(CQ _ _ _).mono ?_;rintro r w' ⟨uf,hb⟩;obtain rfl:=hb.no H1.out;obtain rfl:=uf.symm))
  go_ret;exact⟨by first|exact aT _ _|exact(aT _ _).alloc (az _) _,zI rfl λh=>H1.out h.1⟩
def BF(k i t:Nat):Int:=if k<=i then(ug k t:Int)else max 0 (min (ug k t:Int) ((t:Int)-((i*ug k t:Nat):Int)))
theorem D5{k:Nat}(hk:1<=k)(t:Nat):ug k t<=t:=by
 unfold ug;rcases fE t with rfl|h
 .rw[lM ag];omega
 .have h1:(t+k-1)/k<t+1:=by
   rw[avS ag];have:t*1<=t*k:=nK t hk;rw[lQ];omega
  omega
theorem ai9(K I T:Int)(k i t:Nat)(hK:K=k)(hI:I=i)(hT:T=t)(hk:1<=k)(P7:k<=255)(hi:i<=255)(ht:t<=65536)(w:ah):
  Calls prog 138 #[.int .i64 K,.int .i64 I,.int .i64 T] w λr w'=>r=.returned (.int .i64 (BF k i t))/\w'=w:=by
 have K1:=FP K T k t hK hT hk P7 ht w;subst hK hI hT;have hL:=D5 hk t;unfold BF;obtain⟨L,eL⟩:∃L,ug k t=L:=⟨_,rfl⟩;rw[eL]at K1 hL⊢;obtain⟨p,ep⟩:∃p,i*L=p:=⟨_,rfl⟩;have hp:p<=255*65536:=by rw[<-ep];exact kR hi ag
 have CE:(i:Int)*(L:Int)=(p:Int):=by rw[<-ep];simp
 rw[ep];clear eL ep hk;by_cases WT:k<=i
 .rw[ay WT];go_enter func138,ntmps138
  go_wp2_with(first|(go_at_call 77;refine K1.mono ?_;rintro r w' ⟨rfl,uf⟩;obtain rfl:=uf.symm))
  exact ayo
 .rw[au WT];have W1:wrap64 (p:Int)=(p:Int):=aga _ ag;have W2:wrap64 ((t:Int)-(p:Int))=(t:Int)-(p:Int):=aga _ ag;rcases nS ((t:Int)-(p:Int)) (L:Int)with c1|c1
  .rcases nS 0 ((t:Int)-(p:Int))with c2|c2
   .have HG:Hid (max 0 (min (L:Int) ((t:Int)-(p:Int)))=(t:Int)-(p:Int)):=mP;go_enter func138,ntmps138
    go_wp2_with(first|(go_at_call 77;refine K1.mono ?_;rintro r w' ⟨rfl,uf⟩;obtain rfl:=uf.symm))
    all_goals go_ret
    all_goals exact⟨FV oG,rfl⟩
   .have HG:Hid (max 0 (min (L:Int) ((t:Int)-(p:Int)))=0):=mP;go_enter func138,ntmps138
    go_wp2_with(first|(go_at_call 77;refine K1.mono ?_;rintro r w' ⟨rfl,uf⟩;obtain rfl:=uf.symm))
    all_goals go_ret
    all_goals exact⟨FV oG,rfl⟩
  .rcases fE L with c2|c2
   .have HG:Hid (max 0 (min (L:Int) ((t:Int)-(p:Int)))=0):=mP;subst c2;go_enter func138,ntmps138
    go_wp2_with(first|(go_at_call 77;refine K1.mono ?_;rintro r w' ⟨rfl,uf⟩;obtain rfl:=uf.symm))
    all_goals go_ret
    all_goals exact⟨FV (by rw[HG.out];try rfl),rfl⟩
   .have HG:Hid (max 0 (min (L:Int) ((t:Int)-(p:Int)))=L):=mP;go_enter func138,ntmps138
    go_wp2_with(first|(go_at_call 77;refine K1.mono ?_;rintro r w' ⟨rfl,uf⟩;obtain rfl:=uf.symm))
    all_goals go_ret
    all_goals exact⟨FV oG,rfl⟩
structure Sh.In(s:Sh)(w:ah)(vN vS vC:ai):Prop where
 names:qU w vN (xe s.ns)
 sizes:qU w vS (Gf s.zs)
 qH:qU w vC (sJ s.qH)
 nl:s.ns.length<=9223372036854775807
 zl:s.zs.length<=9223372036854775807
 cl:s.qH.length<=9223372036854775807
 ml:∀n∈s.ns,n.length<=9223372036854775807
theorem Sh.aia(s:Sh):s.L8↔AQ s.K s.N s.C/\0<=s.I/\s.I<s.N:=
 ⟨λh=>⟨⟨⟨h.k1,h.kn,h.n1⟩,h.c1,h.c2⟩,h.i0,h.iN⟩,λh=>⟨h.1.1.1,h.1.1.2.1,h.1.1.2.2,h.2.1,h.2.2,h.1.2.1,h.1.2.2⟩⟩
theorem Sh.adh(s:Sh):s.Listed↔U_ s.ns s.zs:=⟨λh=>⟨h.len,h.names,h.sizes⟩,λh=>⟨h.1,h.2.1,h.2.2⟩⟩
theorem Sh.alV(s:Sh):s.Few↔MK s.ns s.zs:=⟨λh=>⟨h.ai_,h.bytes,h.OD⟩,λh=>⟨h.1,h.2.1,h.2.2⟩⟩
def Va(l:ak)(F:Int):Int:=match(List.range l.length).find? (λm:Nat=>decide (F<=(m:Int)/\tZ l m≠0))with
 |some m=>(m:Int)
 |none=> -1
theorem U8.is{l:ak}{F:Int}{r:Ending}(h:U8 l F r):r=.returned (.int .i64 (Va l F)):=by
 obtain⟨x,rfl,hx⟩:=h;rcases hx with⟨rfl,hz⟩|⟨m,rfl,h1,h2,h3,h4⟩
 .have:(List.range l.length).find? (λm:Nat=>decide (F<=(m:Int)/\tZ l m≠0))=none:=by
   rw[pG];intro m hm;have:=hz m;simp only[fH]at hm;simp only[iP];rintro⟨g1,g2⟩;exact g2 (this g1 hm)
  unfold Va;rw[this]
 .have:(List.range l.length).find? (λm:Nat=>decide (F<=(m:Int)/\tZ l m≠0))=some m:=by
   rw[pF];refine⟨by simp only[iP];exact⟨h1,h3⟩,jI,λj hj=>?_⟩;have:=h4 j hj;simp only[av6,avK];rintro⟨g1,g2⟩;exact g2 (this g1)
  unfold Va;rw[this]
theorem adD(F:Int)(hF: -1000000000000<=F/\F<=1000000000000)(v:ai)(l:ak)(hl:l.length<=9223372036854775807)(w:ah)(h:qU w v (sJ l)):
  Calls prog 139 #[v,.int .i64 F] w λr w'=>r=.returned (.int .i64 (Va l F))/\w'=w:=
 (ZL F hF v l hl w h).mono λ_ _ hx=>⟨hx.2.is,hx.1⟩
theorem qU.drewN{w:ah}{v:ai}{xs:aK}(h:qU w v xs)(n:Nat):qU (w.drewN n) v xs:=by
 obtain⟨ba,cap,rfl,hle,hc⟩:=h
 exact⟨ba,cap,rfl,hle,λj u hj=>by obtain⟨b,off,e,hh⟩:=hc j u hj;exact⟨b,off,e,by rw[<-hh];simp⟩⟩
theorem below_drewN{B:Nat}{a w:ah}(h:Below B a w)(n:Nat):Below B a (w.drewN n):=h.trans ⟨rfl,rfl,rfl,az _,λ_ _=>rfl⟩
theorem adE(v:ai)(zs:di)(hl:zs.length<=9223372036854775807)(hzo:O0 zs)(ht:Fv zs<=65536)(w:ah)(h:qU w v (Gf zs)):
  Calls prog 65 #[v] w λr w'=>r=.returned (.int .i64 (Fv zs:Nat))/\w'=w:=by
 obtain⟨ba,cap,rfl,Ci,hcz⟩:=h;rw[FU]at Ci⊢;obtain⟨t,et⟩:∃t,Fv zs=t:=⟨_,rfl⟩;have hto:∀c,c<=zs.length->zJ zs c<=t:=λc hc=>et▸U9 zs hc
 have w_:zJ zs zs.length=t:=by rw[QG,et]
 rw[et]at ht⊢;clear et;go_enter func65,ntmps65;go_wp2
 go_loop [3,5,8] (λvt _ vi=>∃c:Nat,c<=zs.length/\vi=.int .i64 (c:Int)/\vt=.int .i64 (zJ zs c:Nat)) (λ_ _ i=>zs.length-(intOf i).toNat)
 case atStart=>exact⟨0,ag,rfl,rfl⟩
 case round=>
  obtain⟨c,ard,rfl,rfl⟩:=hrel;by_cases qK:c<zs.length
  .obtain⟨b,off,rfl,hcell⟩:=hcz c _ (ZN qK);have hzc:=hzo c qK;obtain⟨z,e2⟩:∃z:Nat,zs.getD c 0=(z:Int):=⟨(zs.getD c 0).toNat,ag⟩
   have HS:Hid (zJ zs (c+1)=zJ zs c+z):=by show _=_;rw[Ia,e2];simp
   have tX:zJ zs c+z<=65536:=by rw[<-HS.out];exact bu (hto (c+1) ag) ht
   rw[e2]at hcell;obtain⟨y,ey⟩:∃y,zJ zs c=y:=⟨_,rfl⟩;rw[ey]at HS tX⊢;clear e2 hzc hcz hzo ey w_ hto;go_wp2
   go_round
   case rel=>exact⟨c+1,ag,bU,by rw[HS.out];go_num⟩
   case measure=>simp[intOf];omega
  .obtain rfl:c=zs.length:=ag;rw[w_];clear hcz hzo w_ hto;exact ayj
section
variable (K N I C:Int)(ns:List (ak))(zs:di)(qH:ak)(vN vS vC:ai)(w:ah)(h:(Sh.mk K N I C ns zs qH).In w vN vS vC)(H1:Hid (AQ K N C))(i0:0<=I)(iN:I<N)
end
end Go.Proofs.Y
namespace Go.Proofs.Y
open Go.Proofs.Tryz
open Go.RowKit Go.Deep Go.Hp
theorem Tryz.Jn:(prog.info? 44).map (λi=>(i.zero,i.size,i.bytes))=some (some (.agg #[.string ⟨#[]⟩,.slice none 0 0]),2,40):=aj
def FM(e:qX):aK:=[rH e.k,e.d]
def xn(n:Nat)(f:Nat->qX):aK:=(List.range n).flatMap λi=>FM (f i)
theorem BI(n:Nat)(f:Nat->qX):xn (n+1) f=xn n f++FM (f n):=by unfold xn;rw[dZ,nP];simp
theorem AZ(n:Nat)(f:Nat->qX):(xn n f).length=n*2:=by
 induction n with
 |zero=>rfl
 |succ n ih=>rw[BI,bK,ih];simp[FM];omega
theorem GX(n:Nat)(f:Nat->qX)(i p:Nat)(hi:i<n)(hp:p<2):(xn n f)[i*2+p]?=(FM (f i))[p]?:=by
 induction n with
 |zero=>omega
 |succ n ih=>
  rw[BI];by_cases e:i=n
  .subst e;rw[jE awR,AZ,show i*2+p-i*2=p by omega]
  .rw[gV awR,ih ag]
theorem RF{n:Nat}{f g:Nat->qX}(h:∀i,i<n->f i=g i):xn n f=xn n g:=by
 induction n with
 |zero=>rfl
 |succ n ih=>rw[BI,BI,ih λi hi=>h i ag,h n ag]
theorem Yo(e:qX):∀u∈FM e,u.oneCell'=true:=by intro u hu;simp[FM]at hu;rcases hu with rfl|rfl<;>rfl
structure BC(w:ah)(bo:aY)(n:Nat)(f:Nat->qX):Prop where
 here:0<n->∃b o,bo=some ⟨b,o,none⟩/\b<w.heap.size/\∀i,i<n->w.cell? ⟨b,o+i*2,none⟩=some (rH (f i).k)/\w.cell? ⟨b,o+i*2+1,none⟩=some (f i).d
theorem BC.below{w w':ah}{bo:aY}{n B:Nat}{f:Nat->qX}(h:BC w bo n f)(hb:Below B w w')(hB:w.heap.size<=B):BC w' bo n f:=⟨λhn=>by obtain⟨b,o,h1,h2,h3⟩:=h.here hn;exact⟨b,o,h1,bG h2 hb.size,λi hi=>⟨(hb.cell (p:=⟨b,_,none⟩) (bG h2 hB)).trans (h3 i hi).1,(hb.cell (p:=⟨b,_,none⟩) (bG h2 hB)).trans (h3 i hi).2⟩⟩⟩
theorem rU{w w':ah}{B e s n:Nat}{v:ai}{xs:aK}(h:w.ownsRow B e s v n xs)(hk:∀g,v.ownBlock=some g->w'.heap[g]?=w.heap[g]?):w'.ownsRow B e s v n xs:=by
 refine⟨h.1,?_⟩;rcases h.2 with h1|⟨g,cap,cur,h1,h2,h3,h4⟩
 .exact .inl h1
 .exact .inr ⟨g,cap,cur,h1,h2,by rw[hk g (by rw[h1];rfl)];exact h3,h4⟩
theorem D6{w:ah}{B B' t t' s s' n n':Nat}{v v':ai}{xs xs':aK}(h:w.ownsRow B t s v n xs)(h':w.ownsRow B' t' s' v' n' xs')(ht:t≠t'){b:Nat}(hb:v.ownBlock=some b):v'.ownBlock≠some b:=λI9=>by obtain⟨c1,f1,e1⟩:=Lib.ownsRow_kind h b hb;obtain⟨c2,f2,e2⟩:=Lib.ownsRow_kind h' b I9;rw[e1]at e2;cases e2;exact ht rfl
theorem aja(w:ah)(n B:Nat)(hB:B<=w.heap.size)(hn:n<=1048576):(w.alloc (.cells (madeCells #[.string ⟨#[]⟩,.slice none 0 0] (n*2)) 44)).ownsRow B 44 2 (.slice (some ⟨w.heap.size,0,none⟩) 0 n) 0 []:=
 ⟨rfl,.inr ⟨w.heap.size,n,madeCells #[.string ⟨#[]⟩,.slice none 0 0] (n*2),rfl,hB,fC _ _,ag,dB,iO _ _,rfl⟩⟩
theorem cell_two_new(w:ah)(x y:ai)(t:aF):∀j u,[x,y][j]?=some u->(w.alloc (.cells #[x,y] t)).cell? ((⟨w.heap.size,0,none⟩:Addr).add j)=some u:=by
 intro j u hj
 match j,hj with
 |0,hj=>simp at hj;subst hj;simp[Addr.add]
 |1,hj=>simp at hj;subst hj;simp[Addr.add]
theorem NJ{w w':ah}{h n m:Nat}{fh out:Nat->qX}{v v':ai}(wS:w.ownsRow (h+1) 44 2 v' m (xn m out))(H:w.ownsRow (h+1) 97 3 v n (JH n fh))(KZ:∀b,b<w.heap.size->b≠h->some b≠v.ownBlock->w'.heap[b]?=w.heap[b]?):w'.ownsRow (h+1) 44 2 v' m (xn m out):=
 rU wS λg hg=>KZ g (wS.lt g hg).2 (by have:=(wS.lt g hg).1;omega) (λe=>D6 wS H aC hg e.symm)
theorem JI(w:ah)(e:qX):(w.alloc (.cells #[.string ⟨e.k.toArray⟩,.slice e.a e.l e.c] 44)).cell? ⟨w.heap.size,0,none⟩=some (.string ⟨e.k.toArray⟩)/\(w.alloc (.cells #[.string ⟨e.k.toArray⟩,.slice e.a e.l e.c] 44)).cell? ⟨w.heap.size,1,none⟩=some (.slice e.a e.l e.c):=by constructor<;>simp
theorem adF(n:Nat)(hn:n<=1048576)(w:ah):(Instr.makeSlice 26 (.int .i64 0) (.int .i64 (n:Int))).run prog w=.ok (.slice (some ⟨w.heap.size,0,none⟩) 0 n) (w.alloc (.cells (madeCells #[.string ⟨#[]⟩,.slice none 0 0] (n*2)) 44)):=by obtain⟨i0,Ak,yz,xA,wH⟩:=dm Tryz.Jn;have:=jQ (P:=prog) w 26 44 i0 _ underlying26 Ak yz .i64 .i64 0 n ag ag ik ag;exact ayA
theorem afp{n:Nat}{f g:Nat->qX}(h:qR n f g){i j:Nat}(hi:i<n)(hj:j<n)(WE:i≠j)(e:(g i).k=(g j).k):¬(∀i j,i<j->j<n->(f i).k≠(f j).k):=by
 obtain⟨i',j',h1,h2,h3,h4,h5⟩:=h.two hi hj WE;rw[h4,h5]at e;intro hd;rcases bJ i' j' with h|h
 .exact hd i' j' h h2 e
 .exact hd j' i' ag h1 e.symm
theorem ajb{n:Nat}{f:Nat->qX}(h:∀i,i+1<n->Hp.lt (f i).k (f (i+1)).k=true):∀d i,i+d+1<n->Hp.lt (f i).k (f (i+d+1)).k=true
 |0,i,hi=>h i hi
 |d+1,i,hi=>Hp.lt_trans (ajb h d i ag) (h (i+d+1) ag)
theorem abp{n:Nat}{f g:Nat->qX}(h:qR n f g)(hs:∀i,i+1<n->Hp.lt (g i).k (g (i+1)).k=true):∀i j,i<j->j<n->(f i).k≠(f j).k:=λi j WE hj e=>by
 refine afp h.symm (i:=i) (j:=j) ag hj ag e λi j WE hj e=>?_
 have:=ajb hs (j-i-1) i ag;rw[show i+(j-i-1)+1=j by omega,e,Hp.lt_irrefl]at this;cases this
def Fits(k:ak):Prop:=1<=k.length/\k.length<=255
def uX(n:Nat)(f:Nat->qX):Prop:=(∀i,i<n->Fits (f i).k)/\∀i j,i<j->j<n->(f i).k≠(f j).k
def ao6(n:Nat)(f:Nat->qX)(w:ah)(r:Ending)(w':ah):Prop:=
 Below w.heap.size w w'/\((¬uX n f/\r=.returned (.tuple #[.slice none 0 0,.bool false]))\/
  (uX n f/\∃f' v,r=.returned (.tuple #[v,.bool true])/\qR n f f'/\(∀i,i+1<n->Hp.lt (f' i).k (f' (i+1)).k=true)/\w'.ownsRow w.heap.size 44 2 v n (xn n f')))
theorem abq{h i m k:Nat}{f out fh f2:Nat->qX}{v2 vs v':ai}{w W4 wa w5:ah}(hk:i-m=k+1)(hp:Hp fh (k+1))(hR':qR i f (λx=>if x<m+1 then(if x=m then fh 0 else out x)else(if x-(m+1)=0 then fh k else fh (x-(m+1)))))
  (WG:∀x,x+1<m->Hp.lt (out x).k (out (x+1)).k=true) (hle:∀x,x<k+1->0<m->Hp.le (out (m-1)).k (fh x).k) (hne:0<m->(out (m-1)).k≠(fh 0).k) (Fz:qR k (O1 k fh) f2) (CE:Hp f2 k) (H4:HA (h+1) h k f2 v2 W4) (b4:Below h w W4) (s4:h+1<=W4.heap.size) (o4:W4.ownsRow (h+1) 44 2 vs m (xn m out))
  (ha:Below W4.heap.size W4 wa) (hg:wa.grownBy w5 vs.ownBlock) (ho:w5.ownsRow (h+1) 44 2 v' (m+1) (xn m out++FM (fh 0))):
  m+1<=i/\HA (h+1) h (i-(m+1)) f2 v2 w5/\Hp f2 (i-(m+1))/\qR i f (λx=>if x<m+1 then(λx=>if x=m then fh 0 else out x) x else f2 (x-(m+1)))/\(∀x,x+1<m+1->Hp.lt ((λx=>if x=m then fh 0 else out x) x).k ((λx=>if x=m then fh 0 else out x) (x+1)).k=true)/\(∀x,x<i-(m+1)->0<m+1->Hp.le ((λx=>if x=m then fh 0 else out x) (m+1-1)).k (f2 x).k)/\w5.ownsRow (h+1) 44 2 v' (m+1) (xn (m+1) (λx=>if x=m then fh 0 else out x))/\Below h w w5/\h+1<=w5.heap.size:=by
 have ek:i-(m+1)=k:=ag;have hsa:=ha.size;have kb:∀b,b<W4.heap.size->some b≠vs.ownBlock->w5.heap[b]?=W4.heap[b]?:=λb hb hne=>(hg.block b ag hne).trans (ha.block b hb)
 have I_:Below (h+1) W4 w5:=((ha.mono s4).grown hg ag (λx hx=>(o4.lt x hx).1));have DY:=I_.size;rw[ek];refine⟨ag,⟨H4.var.of_block (kb h ag (λe=>aye)),rU H4.own λg uO=>kb g (H4.own.lt g uO).2 (λe=>D6 H4.own o4 aC uO e.symm),H4.low⟩,CE,?_,?_,?_,?_,b4.trans (I_.mono ag),ag⟩
 .exact azg
 .intro x hx;dsimp only;rw[au (show¬x=m by omega)];by_cases e:x+1=m
  .rw[ay e];have:=hle 0 ag ag;have h3:=Hp.lt_of_le_ne this (hne ag);rw[show m-1=x by omega]at h3;exact h3
  .rw[au e];exact WG x ag
 .intro x hx _;dsimp only;rw[iF,ay rfl];obtain⟨j,hj,ej⟩:=Fz.from hx;rw[ej];unfold O1;split
  .exact ZP hp k ag
  .exact ZP hp j ag
 .rw[BI,ay rfl,RF (g:=out) λj hj=>iq];exact ho
theorem adG(n cap:Nat)(bo:aY)(f:Nat->qX)(w:ah)(hn:n<=1048576)(hk:∀i,i<n->(f i).k.length<=9223372036854775807)(hB:BC w bo n f):
  Calls prog 16 #[.slice bo n cap] w λr w'=>ao6 n f w r w':=by
 obtain⟨i0,Ak,yz,xA,wH⟩:=dm Tryz.Jn
 have v0:(w.alloc (.cells #[.slice none 0 0] 68)).rowIs w.heap.size 68 1 (λ_=>.slice none 0 0):=
  World.rowIs_alloc w #[.slice none 0 0] 68 (λ_=>.slice none 0 0) (λi hi=>by obtain rfl:i=0:=jq;rfl)
 have b0:Below w.heap.size w (w.alloc (.cells #[.slice none 0 0] 68)):=(aT _ _).alloc (az _) _;have s0:(w.alloc (.cells #[.slice none 0 0] 68)).heap.size=w.heap.size+1:=ax;have H0:HA (w.heap.size+1) w.heap.size 0 f (.slice none 0 0) (w.alloc (.cells #[.slice none 0 0] 68)):=⟨v0,dK _ _ _ _,ag⟩;go_enter func16,ntmps16;go_wp2;generalize w.alloc (.cells #[.slice none 0 0] 68)=w0 at*;generalize hh:w.heap.size=h at*
 go_loopw [6,11] (λ_ vi wr=>∃(i:Nat)(f':Nat->qX)(v:ai),i<=n/\vi=.int .i64 ((i:Nat):Int)/\HA (h+1) h i f' v wr/\qR i f f'/\Hp f' i/\Below h w wr/\h+1<=wr.heap.size/\∀j,j<i->Fits (f j).k) (λ_ vi _=>n-(intOf vi).toNat)
 case atStart=>exact⟨0,f,_,ag,rfl,H0,qR.refl _ _,λc _ hc=>absurd hc ag,b0,ag,λj hj=>absurd hj ag⟩
 case round=>
  clear v0 b0 s0 H0;obtain⟨i,f',v,hi,rfl,H,hR,hp,hb,hs,hf⟩:=hrel;by_cases qK:i<n
  .have Am:(i:Int)<(n:Int):=ag;obtain⟨b,o,rfl,L_,hcell⟩:=(hB.below hb ag).here ag;obtain⟨c0,c1⟩:=hcell i qK;clear hcell
   have nV:(wr.alloc (.cells #[rH (f i).k,(f i).d] 44)).rowIs wr.heap.size 44 2 (λj=>if j=0 then rH (f i).k else(f i).d):=
    World.rowIs_alloc wr #[rH (f i).k,(f i).d] 44 _ (λi hi=>by have:i=0\/i=1:=jq;rcases this with rfl|rfl<;>rfl)
   have H1:HA (h+1) h i f' v (wr.alloc (.cells #[rH (f i).k,(f i).d] 44)):=⟨H.var.alloc _,H.own.alloc _,H.low⟩;have b1:=hb.alloc ag (.cells #[rH (f i).k,(f i).d] 44);have s1:h+1<=(wr.alloc (.cells #[rH (f i).k,(f i).d] 44)).heap.size:=aS;have e0:=nV.cell (i:=0) ag;have e1:=nV.cell (i:=1) ag;simp only[aX,kQ,bQ]at e0 e1;by_cases anN:Fits (f i).k
   .have kn:=ZO (f i).k anN;have kp:=alq (h+1) h i f' v (f i) _ H1 s1 ag hp;have Fz:qR (i+1) f (λx=>if x=i then f i else f' x):=hR.snoc (λ_ _=>rfl) (λx hx=>iq) (by rw[ay rfl]);clear H1 H hb nV;generalize BB:wr.alloc (.cells #[rH (f i).k,(f i).d] 44)=w1 at*;simp only[rH,qX.d]at*
    go_wp2_with(first
     |(go_at_call 22;(with_reducible refine(kn _).mono ?_);rintro r w' ⟨rfl,uf⟩;obtain rfl:=uf.symm)
     |(go_at_call 23;(with_reducible refine kp.mono ?_);rintro r w2 ⟨rfl,f2,v2,H2,WN,CE,tX,zU⟩))
    go_roundw
    case rel=>exact⟨i+1,f2,v2,ag,bU,H2,Fz.trans WN,CE,b1.trans tX,zU,λj hj=>by
     by_cases e:j=i
     .rw[e];exact anN
     .exact hf j ag⟩
    case measure=>simp[intOf];omega
   .have kn:=abo (f i).k anN (hk i qK);have bad:¬uX n f:=λhN=>anN (hN.1 i qK)
    clear H1 H hb nV;generalize BB:wr.alloc (.cells #[rH (f i).k,(f i).d] 44)=w1 at*;simp only[rH,qX.d]at c0 c1 e0 e1 BB
    go_wp2_with(first
     |(go_at_call 22;(with_reducible refine(kn _).mono ?_);rintro r w' ⟨rfl,uf⟩;obtain rfl:=uf.symm))
    go_ret2;exact⟨by rw[hh];exact b1,.inl ⟨bad,rfl⟩⟩
  .obtain rfl:i=n:=ag;have Hg:¬((i:Int)<(i:Int)):=ag;have mk:=adF i hn wr;have DD:=aja wr i (h+1) hs hn;have H1:HA (h+1) h i f' v (wr.alloc (.cells (madeCells #[.string ⟨#[]⟩,.slice none 0 0] (i*2)) 44)):=⟨H.var.alloc _,H.own.alloc _,H.low⟩;have b1:=hb.alloc ag (.cells (madeCells #[.string ⟨#[]⟩,.slice none 0 0] (i*2)) 44);have s1:h+1<=(wr.alloc (.cells (madeCells #[.string ⟨#[]⟩,.slice none 0 0] (i*2)) 44)).heap.size:=aS;clear H hb hs;go_wp2;generalize wr.alloc (.cells (madeCells #[.string ⟨#[]⟩,.slice none 0 0] (i*2)) 44)=w1 at*
   go_loopw [7,8] (λvs _ wq=>∃(m:Nat)(out fh:Nat->qX)(v:ai),m<=i/\HA (h+1) h (i-m) fh v wq/\Hp fh (i-m)/\qR i f (λx=>if x<m then out x else fh (x-m))/\(∀x,x+1<m->Hp.lt (out x).k (out (x+1)).k=true)/\(∀x,x<i-m->0<m->Hp.le (out (m-1)).k (fh x).k)/\wq.ownsRow (h+1) 44 2 vs m (xn m out)/\Below h w wq/\h+1<=wq.heap.size) (λvs _ _=>match vs with| .slice _ m _=>i-m|_=>0)
   case atStart=>exact⟨0,f',f',v,ag,H1,hp,hR.congr λx _=>axz,λx hx=>absurd hx ag,λx _ h0=>absurd h0 ag,DD,b1,s1⟩
   case round=>
    clear H1 DD b1 s1 mk hp hR;obtain⟨m,out,fh,v,hm,H,hp,hR,WG,hle,wS,hb,hs⟩:=hrel;have kl:=anO (h+1) h (i-m) fh v _ H
    obtain⟨bs,cs,rfl⟩:∃bs cs,u7=.slice bs m cs:=by exact azW
    by_cases hmn:m<i
    .obtain⟨k,WA⟩:∃k,i-m=k+1:=⟨i-m-1,ag⟩;rw[WA]at H hp kl hle;have hgt:(0:Int)<(k:Int)+1:=ag;have kp:=anP (h+1) h k fh v _ H hs ag hp;have hR':=hR.trans ((qR.alr (k:=k) (o:=out) (g:=fh) (show m+(k+1)=i by omega)));have hp0:=hp;rcases fE m with h0|h0
     .have hd:decide ((0:Int)<(m:Int))=false:=by rw[h0];rfl
      have hd2:decide (0<m)=false:=by rw[h0];rfl
      replace h0:m<1:=ag
      go_wp2_with(first
       |(go_at_call 24;(with_reducible refine kl.mono ?_);rintro r w' ⟨rfl,uf⟩;obtain rfl:=uf.symm)
       |(go_at_call 25;(with_reducible refine kp.mono ?_);rintro r w2 ⟨rfl,f2,v2,H2,Fz,CE,tX,zU,KZ⟩;have o2:=NJ wS H.own KZ;simp only[rH,qX.d];obtain⟨nb,nc⟩:=JI w2 (fh 0);have o3:=o2.alloc (.cells #[.string ⟨(fh 0).k.toArray⟩,.slice (fh 0).a (fh 0).l (fh 0).c] 44);have H3:HA (h+1) h k f2 v2 (w2.alloc (.cells #[.string ⟨(fh 0).k.toArray⟩,.slice (fh 0).a (fh 0).l (fh 0).c] 44)):=⟨H2.var.alloc _,H2.own.alloc _,H2.low⟩;have b3:=(hb.trans tX).alloc ag (.cells #[.string ⟨(fh 0).k.toArray⟩,.slice (fh 0).a (fh 0).l (fh 0).c] 44);have s3:h+1<=(w2.alloc (.cells #[.string ⟨(fh 0).k.toArray⟩,.slice (fh 0).a (fh 0).l (fh 0).c] 44)).heap.size:=aS;clear kp kl H wS hp KZ H2 o2))
      go_wp2
      go_quiet (fail)
      generalize hW:w2.alloc (.cells #[.string ⟨(fh 0).k.toArray⟩,.slice (fh 0).a (fh 0).l (fh 0).c] 44)=W at*;replace nb:(W.drewN nq).cell? ⟨w2.heap.size,0,none⟩=some (.string ⟨(fh 0).k.toArray⟩):=nb;replace nc:(W.drewN nq).cell? ⟨w2.heap.size,1,none⟩=some (.slice (fh 0).a (fh 0).l (fh 0).c):=nc;have H4:=H3.drew nq;have b4:=below_drewN b3 nq;replace o3:(W.drewN nq).ownsRow (h+1) 44 2 (.slice bs m cs) m (xn m out):=o3;replace s3:h+1<=(W.drewN nq).heap.size:=s3;generalize W.drewN nq=W4 at*;clear hW H3 b3;clear W
      go_wp2_with(at_builtin;refine eP _ rfl _ _ 26 rfl (h+1) 44 i0 (.agg #[.string ⟨#[]⟩,.slice none 0 0]) 2 40 underlying26 Ak yz xA wH rfl aC _ _ _ rfl (o3.alloc _) ⟨W4.heap.size,0,none⟩ 1 1 (FM (fh 0)) rfl rfl (cell_two_new _ _ _ _) (Yo _) dB ag aS ?_;intro v' w5 Hf sO _;obtain⟨gq,cq,rfl,_,_⟩:=Hf.form ag)
      go_roundw
      case rel=>exact⟨m+1,λx=>if x=m then fh 0 else out x,f2,v2,abq WA hp0 hR' WG hle (λh=>absurd h ag) Fz CE H4 b4 s3 o3 ((aT _ _).alloc (az _) _) sO Hf⟩
      case measure=>simp;omega
     .have hd:(0:Int)<(m:Int):=ag;have KQ:0<=(m:Int)-1:=ag;have Ho:(m:Int)-1<(m:Int):=ag
      obtain⟨gs,rfl,hgs⟩:∃gs,bs=some ⟨gs,0,none⟩/\h+1<=gs:=by
       rcases wS.2 with⟨_,h1⟩|⟨g,cap,_,h1,h2,_⟩
       .omega
       .cases h1;exact⟨_,rfl,h2⟩
      by_cases hne:(out (m-1)).k=(fh 0).k
      .have ahT:¬uX i f:=λhN=>afp hR' (i:=m-1) (j:=m) ag ag ag (by rw[ay ag,au ag,ay ag,ay rfl];exact hne) hN.2
       go_wp2_with(first
        |(go_at_call 24;(with_reducible refine kl.mono ?_);rintro r w' ⟨rfl,uf⟩;obtain rfl:=uf.symm)
        |(go_at_call 25;(with_reducible refine kp.mono ?_);rintro r w2 ⟨rfl,f2,v2,H2,Fz,CE,tX,zU,KZ⟩;have o2:=NJ wS H.own KZ;simp only[rH,qX.d];obtain⟨nb,nc⟩:=JI w2 (fh 0);have o3:=o2.alloc (.cells #[.string ⟨(fh 0).k.toArray⟩,.slice (fh 0).a (fh 0).l (fh 0).c] 44);have H3:HA (h+1) h k f2 v2 (w2.alloc (.cells #[.string ⟨(fh 0).k.toArray⟩,.slice (fh 0).a (fh 0).l (fh 0).c] 44)):=⟨H2.var.alloc _,H2.own.alloc _,H2.low⟩;have b3:=(hb.trans tX).alloc ag (.cells #[.string ⟨(fh 0).k.toArray⟩,.slice (fh 0).a (fh 0).l (fh 0).c] 44);have s3:h+1<=(w2.alloc (.cells #[.string ⟨(fh 0).k.toArray⟩,.slice (fh 0).a (fh 0).l (fh 0).c] 44)).heap.size:=aS;have l0:=o3.cellAt ((m-1)*2) ag;rw[show(xn m out)[(m-1)*2]?=some (.string ⟨(out (m-1)).k.toArray⟩)from(GX m out (m-1) 0 ag ag)]at l0;clear kp kl H wS hp KZ H2 o2))
       simp only[hne]at l0;go_wp2
       go_quiet (fail)
       go_wp2;go_ret2;exact⟨by rw[hh];exact below_drewN b3 _,.inl ⟨ahT,rfl⟩⟩
      .have at1:((out (m-1)).k==(fh 0).k)=false:=oJ.2 hne
       go_wp2_with(first
        |(go_at_call 24;(with_reducible refine kl.mono ?_);rintro r w' ⟨rfl,uf⟩;obtain rfl:=uf.symm)
        |(go_at_call 25;(with_reducible refine kp.mono ?_);rintro r w2 ⟨rfl,f2,v2,H2,Fz,CE,tX,zU,KZ⟩;have o2:=NJ wS H.own KZ;simp only[rH,qX.d];obtain⟨nb,nc⟩:=JI w2 (fh 0);have o3:=o2.alloc (.cells #[.string ⟨(fh 0).k.toArray⟩,.slice (fh 0).a (fh 0).l (fh 0).c] 44);have H3:HA (h+1) h k f2 v2 (w2.alloc (.cells #[.string ⟨(fh 0).k.toArray⟩,.slice (fh 0).a (fh 0).l (fh 0).c] 44)):=⟨H2.var.alloc _,H2.own.alloc _,H2.low⟩;have b3:=(hb.trans tX).alloc ag (.cells #[.string ⟨(fh 0).k.toArray⟩,.slice (fh 0).a (fh 0).l (fh 0).c] 44);have s3:h+1<=(w2.alloc (.cells #[.string ⟨(fh 0).k.toArray⟩,.slice (fh 0).a (fh 0).l (fh 0).c] 44)).heap.size:=aS;have l0:=o3.cellAt ((m-1)*2) ag;rw[show(xn m out)[(m-1)*2]?=some (.string ⟨(out (m-1)).k.toArray⟩)from(GX m out (m-1) 0 ag ag)]at l0;clear kp kl H wS hp KZ H2 o2))
       go_wp2
       go_quiet (fail)
       generalize hW:w2.alloc (.cells #[.string ⟨(fh 0).k.toArray⟩,.slice (fh 0).a (fh 0).l (fh 0).c] 44)=W at*;replace nb:(W.drewN nq).cell? ⟨w2.heap.size,0,none⟩=some (.string ⟨(fh 0).k.toArray⟩):=nb;replace nc:(W.drewN nq).cell? ⟨w2.heap.size,1,none⟩=some (.slice (fh 0).a (fh 0).l (fh 0).c):=nc;have H4:=H3.drew nq;have b4:=below_drewN b3 nq;replace o3:(W.drewN nq).ownsRow (h+1) 44 2 (.slice (some ⟨gs,0,none⟩) m cs) m (xn m out):=o3;replace s3:h+1<=(W.drewN nq).heap.size:=s3;generalize W.drewN nq=W4 at*;clear hW H3 b3 l0;clear W
       go_wp2_with(at_builtin;refine eP _ rfl _ _ 26 rfl (h+1) 44 i0 (.agg #[.string ⟨#[]⟩,.slice none 0 0]) 2 40 underlying26 Ak yz xA wH rfl aC _ _ _ rfl (o3.alloc _) ⟨W4.heap.size,0,none⟩ 1 1 (FM (fh 0)) rfl rfl (cell_two_new _ _ _ _) (Yo _) dB ag aS ?_;intro v' w5 Hf sO _;obtain⟨gq,cq,rfl,_,_⟩:=Hf.form ag)
       go_roundw
       case rel=>exact⟨m+1,λx=>if x=m then fh 0 else out x,f2,v2,abq WA hp0 hR' WG hle (λ_=>hne) Fz CE H4 b4 s3 o3 ((aT _ _).alloc (az _) _) sO Hf⟩
       case measure=>simp;omega
    .obtain rfl:m=i:=ag;rw[lL]at kl;rw[show((0:Nat):Int)=0 from rfl]at kl;have DR:qR m f out:=hR.congr λx hx=>by rw[ay hx]
     have hN:uX m f:=⟨hf,abp DR WG⟩;clear hp hle hR H
     go_wp2_with(first|(go_at_call 24;(with_reducible refine kl.mono ?_);rintro r w' ⟨rfl,uf⟩;obtain rfl:=uf.symm))
     go_ret2;exact⟨awK,.inr ⟨hN,out,_,rfl,DR,WG,axA⟩⟩
