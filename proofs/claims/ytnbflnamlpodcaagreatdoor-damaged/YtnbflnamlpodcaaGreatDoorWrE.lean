import Derived.Test.YtnbflnamlpodcaaGreatDoorSumW
set_option maxHeartbeats 2000000
set_option maxRecDepth 100000
namespace Go.Proofs.Y
open Go.Proofs.Tryz
open Go.RowKit Go.Deep
theorem Eb{a b:Bool}(h:a=b):Ending.returned (.bool a)=.returned (.bool b):=jf
theorem abv(n:Int)(hn: -9223372036854775808<=n/\n<=9223372036854775807):wrap64 n=n:=(IntWalk.i64_left n).symm.trans (dV n hn)
theorem EL(K T:Int)(k t:Nat)(hK:K=k)(hT:T=t)(hk:1<=k)(O3:k<=255)(ht:t<=65536)(w:World):
  Calls prog 77 #[.int .i64 K,.int .i64 T] w λr w'=>r=.returned (.int .i64 (tX k t:Nat))/\w'=w:=by
 subst hK hT
 have W1:Hid (((t:Int)+(k:Int)-1)/(k:Int)=(tX k t:Nat)):=by show((t:Int)+(k:Int)-1)/(k:Int)=(tX k t:Nat);rw[show(t:Int)+(k:Int)-1=((t+k-1:Nat):Int)by omega,<-Int.natCast_ediv];rfl
 go_enter func77,ntmps77;go_wp2;go_ret;exact⟨Fe (by rw[W1.out]),rfl⟩
def LZ(r:Ending)(p:Prop):Prop:=∃b:Bool,r=.returned (.bool b)/\(b=true↔p)
theorem KG{r:Ending}{p:Prop}(h:r=.returned (.bool true))(hp:p):LZ r p:=⟨true,h,oQ⟩
theorem zB{r:Ending}{p:Prop}(h:r=.returned (.bool false))(hp:¬p):LZ r p:=⟨false,h,oQ⟩
theorem LZ.yes{r:Ending}{p:Prop}(h:LZ r p)(hp:p):r=.returned (.bool true):=by obtain⟨b,rfl,hb⟩:=h;rw[hb.2 hp]
theorem LZ.no{r:Ending}{p:Prop}(h:LZ r p)(hp:¬p):r=.returned (.bool false):=by
 obtain⟨b,rfl,hb⟩:=h;cases b
 .rfl
 .exact absurd (hb.1 rfl) hp
def Vy(l:List UInt8)(F:Int)(r:Ending):Prop:=∃x:Int,r=.returned (.int .i64 x)/\((x= -1/\∀m:Nat,F<=(m:Int)->m<l.length->tJ l m=0)\/∃m:Nat,x=(m:Int)/\F<=(m:Int)/\m<l.length/\tJ l m≠0/\∀m':Nat,m'<m->F<=(m':Int)->tJ l m'=0)
theorem ZO(F:Int)(hF: -1000000000000<=F/\F<=1000000000000)(v:Value)(l:List UInt8)(hl:l.length<=9223372036854775807)(w:World)(h:qR w v (r_ l)):
  Calls prog 139 #[v,.int .i64 F] w λr w'=>w'=w/\Vy l F r:=by
 obtain⟨ba,cap,rfl,BD,hc⟩:=h;rw[sN]at BD⊢;obtain⟨f,hf⟩:∃f:Nat,f=F.toNat:=⟨_,rfl⟩;have hmax:max (0:Int) F=(f:Int):=ae;have hfb:f<=1000000000000:=ae;go_enter func139,ntmps139;go_wp2
 all_goals
  go_loop [5] (λvi=>∃c:Nat,f<=c/\(c<=l.length\/c=f)/\vi=.int .i64 (c:Int)/\∀m:Nat,m<c->F<=(m:Int)->m<l.length->tJ l m=0) (λi=>l.length-(intOf i).toNat)
  case atStart=>exact⟨f,ak _,.inr rfl,by congr 1;omega,λm hm hm2 _=>ae⟩
  case round=>
   obtain⟨c,hfc,KP,rfl,hz⟩:=hrel;by_cases qE:c<l.length
   .obtain⟨b,off,rfl,hcell⟩:=hc c _ (wR qE);have hb:=Fv l c;obtain⟨y,ey⟩:∃y,tJ l c=y:=⟨_,rfl⟩;rw[ey]at hcell hb;have HY:Hid (tJ l c=y):=ey;have HZ:Hid _:=hz;have HF:Hid (f=F.toNat):=hf;clear ey hz hc hmax hf hfb;by_cases hy:y=0
    .subst hy;go_wp2
     go_round
     case rel=>
      refine⟨c+1,ae,.inl ae,aW,λm hm hm2 hm3=>?_⟩;rcases aQ m c with h1|h1
      .exact HZ.out m h1 hm2 hm3
      .obtain rfl:m=c:=ae;exact HY.out
     case measure=>simp[intOf];omega
    .have hy':((y:Int)==0)=false:=az;have hy2:((y:Int) != 0)=true:=az;go_wp2;go_ret;refine⟨rfl,_,rfl,.inr ⟨c,rfl,?_,qE,?_,λm' h1 h2=>HZ.out m' h1 h2 ae⟩⟩
     .have:=HF.out;omega
     .rw[HY.out];exact hy
   .clear hc;have HZ:Hid _:=hz;clear hz;go_wp2;go_ret;exact⟨rfl,_,rfl,.inl ⟨rfl,λm h1 h2=>HZ.out m ae h1 h2⟩⟩
theorem ZP(v:Value)(zs:List Int)(hl:zs.length<=9223372036854775807)(hz:Og zs)(w:World)(h:qR w v (FC zs)):
  Calls prog 43 #[v] w λr w'=>w'=w/\LZ r (EG zs<=65536):=by
 obtain⟨ba,cap,rfl,BD,hc⟩:=h;rw[ER]at BD⊢;go_enter func43,ntmps43;go_wp2
 go_loop [3,5,8] (λvr _ vi=>∃c r:Nat,c<=zs.length/\vi=.int .i64 (c:Int)/\vr=.int .i64 (r:Int)/\Hid (r+zA zs c=65536)) (λ_ _ i=>zs.length-(intOf i).toNat)
 case atStart=>exact⟨0,65536,ae,rfl,rfl,by show _=_;simp[zA]⟩
 case round=>
  obtain⟨c,r,KP,rfl,rfl,H⟩:=hrel;have hr:r<=65536:=by have:=H.out;omega
  by_cases qE:c<zs.length
  .obtain⟨b,off,rfl,hcell⟩:=hc c _ (Y6 qE);have hzc:=hz c qE;obtain⟨z,ez⟩:∃z:Nat,zs.getD c 0=(z:Int):=⟨(zs.getD c 0).toNat,ae⟩
   have H2:Hid (zA zs (c+1)=zA zs c+z):=by show _=_;rw[G5,ez];simp
   have H3:Hid (zA zs (c+1)<=EG zs):=UC zs ae;rw[ez]at hcell;clear ez hzc hc hz;by_cases amT:r<z
   .have HT:Hid (¬EG zs<=65536):=by
     show¬_;have:=H.out;have:=H2.out;have:=H3.out;omega
    clear H H2 H3;go_wp2;go_ret;exact⟨rfl,zB rfl HT.out⟩
   .have hle:z<=r:=ae
    have G:Hid (r-z+zA zs (c+1)=65536):=by show _=_;have:=H.out;have:=H2.out;omega
    clear H H2 H3;go_wp2
    go_round
    case rel=>exact⟨c+1,r-z,ae,aW,aW,G⟩
    case measure=>simp[intOf];omega
  .have e:c=zs.length:=ae
   have HT:Hid (EG zs<=65536):=by show _<=_;have:=H.out;rw[e,Qx]at this;omega
   clear H hc;go_wp2;go_ret;exact⟨rfl,KG rfl HT.out⟩
theorem Bh(ns:List (List UInt8))(hn:vV ns):∀i,i<=ns.length->Dh ns i<=4+261*i
 |0,_=>by simp[Dh]
 |i+1,h=>by have h1:=Bh ns hn i ae;have h2:=(hn i ae).1.2;rw[Rw];omega
theorem QR(v:Value)(ns:List (List UInt8))(hl:ns.length<=1000)(hn:vV ns)(w:World)(h:qR w v (wO ns)):
  Calls prog 44 #[v] w λr w'=>r=.returned (.int .i64 (IL ns:Nat))/\w'=w:=by
 obtain⟨ba,cap,rfl,BD,hc⟩:=h;rw[v_]at BD⊢;go_enter func44,ntmps44;go_wp2
 go_loop [3,5,8] (λvr _ vi=>∃c r:Nat,c<=ns.length/\vi=.int .i64 (c:Int)/\vr=.int .i64 (r:Int)/\Hid (Dh ns c=r)) (λ_ _ i=>ns.length-(intOf i).toNat)
 case atStart=>exact⟨0,4,ae,rfl,rfl,by show _=_;simp[Dh]⟩
 case round=>
  obtain⟨c,r,KP,rfl,rfl,H⟩:=hrel;by_cases qE:c<ns.length
  .obtain⟨b,off,rfl,hcell⟩:=hc c _ (Gf qE);have hzc:=(hn c qE).1;have hr:r<=300000:=by have:=Bh ns hn c ae;rw[H.out]at this;omega
   obtain⟨s,es⟩:∃s,ns.getD c []=s:=⟨_,rfl⟩
   have H2:Hid (Dh ns (c+1)=r+6+s.length):=by show _=_;rw[Rw,es,H.out]
   rw[es]at hcell hzc;have hsz:(ByteArray.mk s.toArray).size=s.length:=by simp[ByteArray.size]
   clear es hc hn H;go_wp2
   go_round
   case rel=>exact⟨c+1,r+6+s.length,ae,aW,aW,H2⟩
   case measure=>simp[intOf];omega
  .have e:c=ns.length:=ae
   have HT:Hid (IL ns=r):=by show _=_;rw[<-ML,<-e];exact H.out
   clear H hc;go_wp2;go_ret;exact⟨Fe (by rw[HT.out]),rfl⟩
theorem Tj(s:List UInt8):(ByteArray.mk s.toArray).size=s.length:=by simp[ByteArray.size]
theorem Y0(s:List UInt8)(h:1<=s.length/\s.length<=255)(w:World):
  Calls prog 22 #[.string ⟨s.toArray⟩] w λr w'=>r=.returned (.bool true)/\w'=w:=by
 have hsz:=Tj s;go_enter func22,ntmps22;go_wp2;go_ret;exact⟨Eb az,rfl⟩
theorem aaS(s:List UInt8)(h:¬(1<=s.length/\s.length<=255))(hs:s.length<=9223372036854775807)(w:World):
  Calls prog 22 #[.string ⟨s.toArray⟩] w λr w'=>r=.returned (.bool false)/\w'=w:=by
 have hsz:=Tj s;rcases dK s.length with h0|h0
 .rw[h0]at hsz;clear h h0;go_enter func22,ntmps22;exact awx
 .have h1:255<s.length:=ae;clear h;go_enter func22,ntmps22;go_wp2;go_ret;exact⟨Eb az,rfl⟩
def UA(ns:List (List UInt8))(zs:List Int):Prop:=ns.length=zs.length/\vV ns/\Og zs
def Lm(ns:List (List UInt8))(zs:List Int):Prop:=ns.length<=1000/\EG zs<=65536/\IL ns<=300000
theorem Si(vN vS:Value)(ns:List (List UInt8))(zs:List Int)(hn:ns.length<=9223372036854775807)(hzl:zs.length<=9223372036854775807)(DX:UA ns zs)(w:World)(h1:qR w vN (wO ns))(h2:qR w vS (FC zs)):
  Calls prog 27 #[vN,vS] w λr w'=>w'=w/\LZ r (Lm ns zs):=by
 obtain⟨ba,cap,rfl,BD,hc⟩:=id h1;rw[v_]at BD h1⊢;by_cases q1:ns.length<=1000
 .have K1:=ZP vS zs hzl DX.2.2 w h2;by_cases q2:EG zs<=65536
  .have K2:=QR _ ns q1 DX.2.1 w h1;obtain⟨m,em⟩:∃m,IL ns=m:=⟨_,rfl⟩;have EM:Hid (IL ns=m):=em;rw[em]at K2
   have hm:m<=1000000000:=by exact ax5
   have Q2:Hid (EG zs<=65536):=q2;clear h1 h2 hc em DX q2;go_enter func27,ntmps27
   go_wp2_with(first|(go_at_call 43;refine K1.mono ?_;rintro r w' ⟨tH,hb⟩;obtain rfl:=hb.yes Q2.out;obtain rfl:=tH.symm)|(go_at_call 44;refine K2.mono ?_;rintro r w' ⟨rfl,tH⟩;obtain rfl:=tH.symm))
   go_ret;by_cases q3:m<=300000
   .exact⟨rfl,KG (Eb az) ⟨q1,Q2.out,by rw[EM.out];exact q3⟩⟩
   .exact⟨rfl,zB (Eb az) λh=>q3 (by have:=h.2.2;rw[EM.out]at this;exact this)⟩
  .have Q2:Hid (¬EG zs<=65536):=q2;clear h1 h2 hc DX q2;go_enter func27,ntmps27
   go_wp2_with(first|(go_at_call 43;refine K1.mono ?_;rintro r w' ⟨tH,hb⟩;obtain rfl:=hb.no Q2.out;obtain rfl:=tH.symm))
   go_ret;exact⟨rfl,zB rfl λh=>Q2.out h.2.1⟩
 .clear h1 h2 hc;go_enter func27,ntmps27;go_wp2;go_ret;exact⟨rfl,zB rfl λh=>q1 h.1⟩
def BM(k n:Int):Prop:=1<=k/\k<=n/\n<=128
theorem BN(k n:Int)(w:World):
  Calls prog 21 #[.int .i64 k,.int .i64 n] w λe w'=>w'=w/\LZ e (BM k n):=by
 by_cases h1:1<=k
 .by_cases h2:k<=n
  .by_cases h3:n<=128
   .have HF:Hid (BM k n):=⟨h1,h2,h3⟩;go_enter func21,ntmps21;go_wp2;go_ret;exact⟨rfl,KG rfl HF.out⟩
   .have HF:Hid (¬BM k n):=λh=>h3 h.2.2
    go_enter func21,ntmps21;exact axc
  .have HF:Hid (¬BM k n):=λh=>h2 h.2.1
   go_enter func21,ntmps21;exact axc
 .have HF:Hid (¬BM k n):=λh=>h1 h.1
  go_enter func21,ntmps21;exact axc
def Ah(k n c:Int):Prop:=BM k n/\1<=c/\c<=65536
theorem Wh(k n c:Int)(w:World):
  Calls prog 15 #[.agg #[.int .i64 k,.int .i64 n,.int .i64 c]] w λe w'=>Below w.heap.size w w'/\LZ e (Ah k n c):=by
 by_cases h1:BM k n
 .have H1:Hid (BM k n):=h1;clear h1;by_cases h2:1<=c
  .by_cases h3:c<=65536
   .go_enter func15,ntmps15
    go_wp2_with(first|(go_at_call 21;refine(BN _ _ _).mono ?_;rintro r w' ⟨tH,hb⟩;obtain rfl:=hb.yes H1.out;obtain rfl:=tH.symm))
    go_ret;exact⟨by first|exact aA _ _|exact(aA _ _).alloc (ak _) _,KG rfl ⟨H1.out,h2,h3⟩⟩
   .go_enter func15,ntmps15
    go_wp2_with(first|(go_at_call 21;refine(BN _ _ _).mono ?_;rintro r w' ⟨tH,hb⟩;obtain rfl:=hb.yes H1.out;obtain rfl:=tH.symm))
    go_ret;exact⟨by first|exact aA _ _|exact(aA _ _).alloc (ak _) _,zB (Eb az) λh=>by have:=h.2.2;omega⟩
  .go_enter func15,ntmps15
   go_wp2_with(first|(go_at_call 21;refine(BN _ _ _).mono ?_;rintro r w' ⟨tH,hb⟩;obtain rfl:=hb.yes H1.out;obtain rfl:=tH.symm))
   go_ret;exact⟨by first|exact aA _ _|exact(aA _ _).alloc (ak _) _,zB rfl λh=>by have:=h.2.1;omega⟩
 .have H1:Hid (¬BM k n):=h1;clear h1;go_enter func15,ntmps15
  go_wp2_with(first|(go_at_call 21;refine(BN _ _ _).mono ?_;rintro r w' ⟨tH,hb⟩;obtain rfl:=hb.no H1.out;obtain rfl:=tH.symm))
  go_ret;exact⟨by first|exact aA _ _|exact(aA _ _).alloc (ak _) _,zB rfl λh=>H1.out h.1⟩
def A8(k i t:Nat):Int:=if k<=i then(tX k t:Int)else max 0 (min (tX k t:Int) ((t:Int)-((i*tX k t:Nat):Int)))
theorem Du{k:Nat}(hk:1<=k)(t:Nat):tX k t<=t:=by
 unfold tX;rcases dK t with rfl|h
 .rw[mf ae];omega
 .have h1:(t+k-1)/k<t+1:=by
   rw[at6 ae];have:t*1<=t*k:=l_ t hk;rw[kF];omega
  omega
theorem ajV(K I T:Int)(k i t:Nat)(hK:K=k)(hI:I=i)(hT:T=t)(hk:1<=k)(O3:k<=255)(hi:i<=255)(ht:t<=65536)(w:World):
  Calls prog 138 #[.int .i64 K,.int .i64 I,.int .i64 T] w λr w'=>r=.returned (.int .i64 (A8 k i t))/\w'=w:=by
 have K1:=EL K T k t hK hT hk O3 ht w;subst hK hI hT;have hL:=Du hk t;unfold A8;obtain⟨L,eL⟩:∃L,tX k t=L:=⟨_,rfl⟩;rw[eL]at K1 hL⊢;obtain⟨p,ep⟩:∃p,i*L=p:=⟨_,rfl⟩;have hp:p<=255*65536:=by rw[<-ep];exact jK hi ae
 have CJ:(i:Int)*(L:Int)=(p:Int):=by rw[<-ep];simp
 rw[ep];clear eL ep hk;by_cases VW:k<=i
 .rw[aj VW];go_enter func138,ntmps138
  go_wp2_with(first|(go_at_call 77;refine K1.mono ?_;rintro r w' ⟨rfl,tH⟩;obtain rfl:=tH.symm))
  exact awE
 .rw[ah VW];have W1:wrap64 (p:Int)=(p:Int):=abv _ ae;have W2:wrap64 ((t:Int)-(p:Int))=(t:Int)-(p:Int):=abv _ ae;rcases mJ ((t:Int)-(p:Int)) (L:Int)with c1|c1
  .rcases mJ 0 ((t:Int)-(p:Int))with c2|c2
   .have HG:Hid (max 0 (min (L:Int) ((t:Int)-(p:Int)))=(t:Int)-(p:Int)):=lu;go_enter func138,ntmps138
    go_wp2_with(first|(go_at_call 77;refine K1.mono ?_;rintro r w' ⟨rfl,tH⟩;obtain rfl:=tH.symm))
    all_goals go_ret
    all_goals exact⟨Fe ng,rfl⟩
   .have HG:Hid (max 0 (min (L:Int) ((t:Int)-(p:Int)))=0):=lu;go_enter func138,ntmps138
    go_wp2_with(first|(go_at_call 77;refine K1.mono ?_;rintro r w' ⟨rfl,tH⟩;obtain rfl:=tH.symm))
    all_goals go_ret
    all_goals exact⟨Fe ng,rfl⟩
  .rcases dK L with c2|c2
   .have HG:Hid (max 0 (min (L:Int) ((t:Int)-(p:Int)))=0):=lu;subst c2;go_enter func138,ntmps138
    go_wp2_with(first|(go_at_call 77;refine K1.mono ?_;rintro r w' ⟨rfl,tH⟩;obtain rfl:=tH.symm))
    all_goals go_ret
    all_goals exact⟨Fe (by rw[HG.out];try rfl),rfl⟩
   .have HG:Hid (max 0 (min (L:Int) ((t:Int)-(p:Int)))=L):=lu;go_enter func138,ntmps138
    go_wp2_with(first|(go_at_call 77;refine K1.mono ?_;rintro r w' ⟨rfl,tH⟩;obtain rfl:=tH.symm))
    all_goals go_ret
    all_goals exact⟨Fe ng,rfl⟩
structure Sh.In(s:Sh)(w:World)(vN vS vC:Value):Prop where
 names:qR w vN (wO s.ns)
 sizes:qR w vS (FC s.zs)
 qy:qR w vC (r_ s.qy)
 nl:s.ns.length<=9223372036854775807
 zl:s.zs.length<=9223372036854775807
 cl:s.qy.length<=9223372036854775807
 ml:∀n∈s.ns,n.length<=9223372036854775807
theorem Sh.ahu(s:Sh):s.O1↔Ah s.K s.N s.C/\0<=s.I/\s.I<s.N:=
 ⟨λh=>⟨⟨⟨h.k1,h.kn,h.n1⟩,h.c1,h.c2⟩,h.i0,h.iN⟩,λh=>⟨h.1.1.1,h.1.1.2.1,h.1.1.2.2,h.2.1,h.2.2,h.1.2.1,h.1.2.2⟩⟩
theorem Sh.acG(s:Sh):s.Listed↔UA s.ns s.zs:=⟨λh=>⟨h.len,h.names,h.sizes⟩,λh=>⟨h.1,h.2.1,h.2.2⟩⟩
theorem Sh.ak6(s:Sh):s.Few↔Lm s.ns s.zs:=⟨λh=>⟨h.aho,h.bytes,h.NJ⟩,λh=>⟨h.1,h.2.1,h.2.2⟩⟩
def Vr(l:List UInt8)(F:Int):Int:=match(List.range l.length).find? (λm:Nat=>decide (F<=(m:Int)/\tJ l m≠0))with
 |some m=>(m:Int)
 |none=> -1
theorem Vy.is{l:List UInt8}{F:Int}{r:Ending}(h:Vy l F r):r=.returned (.int .i64 (Vr l F)):=by
 obtain⟨x,rfl,hx⟩:=h;rcases hx with⟨rfl,hz⟩|⟨m,rfl,h1,h2,h3,h4⟩
 .have:(List.range l.length).find? (λm:Nat=>decide (F<=(m:Int)/\tJ l m≠0))=none:=by
   rw[nY];intro m hm;have:=hz m;simp only[fK]at hm;simp only[gY];rintro⟨g1,g2⟩;exact g2 (this g1 hm)
  unfold Vr;rw[this]
 .have:(List.range l.length).find? (λm:Nat=>decide (F<=(m:Int)/\tJ l m≠0))=some m:=by
   rw[nX];refine⟨by simp only[gY];exact⟨h1,h3⟩,jc,λj hj=>?_⟩;have:=h4 j hj;simp only[aul,atT];rintro⟨g1,g2⟩;exact g2 (this g1)
  unfold Vr;rw[this]
theorem aea(F:Int)(hF: -1000000000000<=F/\F<=1000000000000)(v:Value)(l:List UInt8)(hl:l.length<=9223372036854775807)(w:World)(h:qR w v (r_ l)):
  Calls prog 139 #[v,.int .i64 F] w λr w'=>r=.returned (.int .i64 (Vr l F))/\w'=w:=
 (ZO F hF v l hl w h).mono λ_ _ hx=>⟨hx.2.is,hx.1⟩
theorem qR.drewN{w:World}{v:Value}{xs:List Value}(h:qR w v xs)(n:Nat):qR (w.drewN n) v xs:=by
 obtain⟨ba,cap,rfl,hle,hc⟩:=h
 exact⟨ba,cap,rfl,hle,λj u hj=>by obtain⟨b,off,e,hh⟩:=hc j u hj;exact⟨b,off,e,by rw[<-hh];simp⟩⟩
theorem below_drewN{B:Nat}{a w:World}(h:Below B a w)(n:Nat):Below B a (w.drewN n):=h.trans ⟨rfl,rfl,rfl,ak _,λ_ _=>rfl⟩
theorem acX(v:Value)(zs:List Int)(hl:zs.length<=9223372036854775807)(hzo:Og zs)(ht:EG zs<=65536)(w:World)(h:qR w v (FC zs)):
  Calls prog 65 #[v] w λr w'=>r=.returned (.int .i64 (EG zs:Nat))/\w'=w:=by
 obtain⟨ba,cap,rfl,BD,hcz⟩:=h;rw[ER]at BD⊢;obtain⟨t,et⟩:∃t,EG zs=t:=⟨_,rfl⟩;have hto:∀c,c<=zs.length->zA zs c<=t:=λc hc=>et▸UC zs hc
 have xe:zA zs zs.length=t:=by rw[Qx,et]
 rw[et]at ht⊢;clear et;go_enter func65,ntmps65;go_wp2
 go_loop [3,5,8] (λvt _ vi=>∃c:Nat,c<=zs.length/\vi=.int .i64 (c:Int)/\vt=.int .i64 (zA zs c:Nat)) (λ_ _ i=>zs.length-(intOf i).toNat)
 case atStart=>exact⟨0,ae,rfl,rfl⟩
 case round=>
  obtain⟨c,aqI,rfl,rfl⟩:=hrel;by_cases qE:c<zs.length
  .obtain⟨b,off,rfl,hcell⟩:=hcz c _ (Y6 qE);have hzc:=hzo c qE;obtain⟨z,e2⟩:∃z:Nat,zs.getD c 0=(z:Int):=⟨(zs.getD c 0).toNat,ae⟩
   have HS:Hid (zA zs (c+1)=zA zs c+z):=by show _=_;rw[G5,e2];simp
   have sZ:zA zs c+z<=65536:=by rw[<-HS.out];exact aJ (hto (c+1) ae) ht
   rw[e2]at hcell;obtain⟨y,ey⟩:∃y,zA zs c=y:=⟨_,rfl⟩;rw[ey]at HS sZ⊢;clear e2 hzc hcz hzo ey xe hto;go_wp2
   go_round
   case rel=>exact⟨c+1,ae,aW,by rw[HS.out];go_num⟩
   case measure=>simp[intOf];omega
  .obtain rfl:c=zs.length:=ae;rw[xe];clear hcz hzo xe hto;exact awx
section
variable (K N I C:Int)(ns:List (List UInt8))(zs:List Int)(qy:List UInt8)(vN vS vC:Value)(w:World)(h:(Sh.mk K N I C ns zs qy).In w vN vS vC)(H1:Hid (Ah K N C))(i0:0<=I)(iN:I<N)
