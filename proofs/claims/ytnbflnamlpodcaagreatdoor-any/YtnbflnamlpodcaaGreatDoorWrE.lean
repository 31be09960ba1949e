import Derived.Test.YtnbflnamlpodcaaGreatDoorSumW
set_option maxHeartbeats 2000000
set_option maxRecDepth 100000
namespace Go.Proofs.Y
open Go.RowKit Go.Deep
theorem BB{a b:Bool}(h:a=b):Ending.returned (.bool a)=.returned (.bool b):=iY
theorem aaA(n:Int)(hn: -9223372036854775808<=n/\n<=9223372036854775807):wrap64 n=n:=(IntWalk.i64_left n).symm.trans (dQ n hn)
theorem Ce(K T:Int)(k t:Nat)(hK:K=k)(hT:T=t)(hk:1<=k)(hk2:k<=255)(ht:t<=65536)(w:World):
  Calls Tryz.prog 77 #[.int .i64 K,.int .i64 T] w λr w'=>r=.returned (.int .i64 (sF k t:Nat))/\w'=w:=by
 subst hK hT
 have W1:Hid (((t:Int)+(k:Int)-1)/(k:Int)=(sF k t:Nat)):=by show((t:Int)+(k:Int)-1)/(k:Int)=(sF k t:Nat);rw[show(t:Int)+(k:Int)-1=((t+k-1:Nat):Int)by omega,<-Int.natCast_ediv];rfl
 go_enter Tryz.func77,Tryz.ntmps77;go_wp2;go_ret;exact⟨CY (by rw[W1.out]),rfl⟩
def IP(r:Ending)(p:Prop):Prop:=∃b:Bool,r=.returned (.bool b)/\(b=true↔p)
theorem Ia{r:Ending}{p:Prop}(h:r=.returned (.bool true))(hp:p):IP r p:=⟨true,h,oJ⟩
theorem yf{r:Ending}{p:Prop}(h:r=.returned (.bool false))(hp:¬p):IP r p:=⟨false,h,oJ⟩
theorem IP.yes{r:Ending}{p:Prop}(h:IP r p)(hp:p):r=.returned (.bool true):=by obtain⟨b,rfl,hb⟩:=h;rw[hb.2 hp]
theorem IP.no{r:Ending}{p:Prop}(h:IP r p)(hp:¬p):r=.returned (.bool false):=by
 obtain⟨b,rfl,hb⟩:=h;cases b
 .rfl
 .exact absurd (hb.1 rfl) hp
def QV(l:List UInt8)(F:Int)(r:Ending):Prop:=∃x:Int,r=.returned (.int .i64 x)/\((x= -1/\∀m:Nat,F<=(m:Int)->m<l.length->sH l m=0)\/∃m:Nat,x=(m:Int)/\F<=(m:Int)/\m<l.length/\sH l m≠0/\∀m':Nat,m'<m->F<=(m':Int)->sH l m'=0)
theorem VP(F:Int)(hF: -1000000000000<=F/\F<=1000000000000)(v:Value)(l:List UInt8)(hl:l.length<=9223372036854775807)(w:World)(h:Lies w v (rF l)):
  Calls Tryz.prog 139 #[v,.int .i64 F] w λr w'=>w'=w/\QV l F r:=by
 obtain⟨ba,cap,rfl,hcap,hc⟩:=h;rw[rH]at hcap⊢;obtain⟨f,hf⟩:∃f:Nat,f=F.toNat:=⟨_,rfl⟩;have hmax:max (0:Int) F=(f:Int):=ae;have hfb:f<=1000000000000:=ae;go_enter Tryz.func139,Tryz.ntmps139;go_wp2
 all_goals
  go_loop [5] (λvi=>∃c:Nat,f<=c/\(c<=l.length\/c=f)/\vi=.int .i64 (c:Int)/\∀m:Nat,m<c->F<=(m:Int)->m<l.length->sH l m=0) (λi=>l.length-(intOf i).toNat)
  case atStart=>exact⟨f,ak _,.inr rfl,by congr 1;omega,λm hm hm2 _=>ae⟩
  case round=>
   obtain⟨c,hfc,hcl,rfl,hz⟩:=hrel;by_cases hlt:c<l.length
   .obtain⟨b,off,rfl,hcell⟩:=hc c _ (vJ hlt);have hb:=FM l c;obtain⟨y,ey⟩:∃y,sH l c=y:=⟨_,rfl⟩;rw[ey]at hcell hb;have HY:Hid (sH l c=y):=ey;have HZ:Hid _:=hz;have HF:Hid (f=F.toNat):=hf;clear ey hz hc hmax hf hfb;by_cases hy:y=0
    .subst hy;go_wp2
     go_round
     case rel=>
      refine⟨c+1,ae,.inl ae,aV,λm hm hm2 hm3=>?_⟩;rcases aT m c with h1|h1
      .exact HZ.out m h1 hm2 hm3
      .obtain rfl:m=c:=ae;exact HY.out
     case measure=>simp[intOf];omega
    .have hy':((y:Int)==0)=false:=az;have hy2:((y:Int) != 0)=true:=az;go_wp2;go_ret;refine⟨rfl,_,rfl,.inr ⟨c,rfl,?_,hlt,?_,λm' h1 h2=>HZ.out m' h1 h2 ae⟩⟩
     .have:=HF.out;omega
     .rw[HY.out];exact hy
   .clear hc;have HZ:Hid _:=hz;clear hz;go_wp2;go_ret;exact⟨rfl,_,rfl,.inl ⟨rfl,λm h1 h2=>HZ.out m ae h1 h2⟩⟩
theorem VQ(v:Value)(zs:List Int)(hl:zs.length<=9223372036854775807)(hz:JP zs)(w:World)(h:Lies w v (Dh zs)):
  Calls Tryz.prog 43 #[v] w λr w'=>w'=w/\IP r (tot zs<=65536):=by
 obtain⟨ba,cap,rfl,hcap,hc⟩:=h;rw[Ci]at hcap⊢;go_enter Tryz.func43,Tryz.ntmps43;go_wp2
 go_loop [3,5,8] (λvr _ vi=>∃c r:Nat,c<=zs.length/\vi=.int .i64 (c:Int)/\vr=.int .i64 (r:Int)/\Hid (r+yc zs c=65536)) (λ_ _ i=>zs.length-(intOf i).toNat)
 case atStart=>exact⟨0,65536,ae,rfl,rfl,by show _=_;simp[yc]⟩
 case round=>
  obtain⟨c,r,hcl,rfl,rfl,H⟩:=hrel;have hr:r<=65536:=by have:=H.out;omega
  by_cases hlt:c<zs.length
  .obtain⟨b,off,rfl,hcell⟩:=hc c _ (U1 hlt);have hzc:=hz c hlt;obtain⟨z,ez⟩:∃z:Nat,zs.getD c 0=(z:Int):=⟨(zs.getD c 0).toNat,ae⟩
   have H2:Hid (yc zs (c+1)=yc zs c+z):=by show _=_;rw[Ej,ez];simp
   have H3:Hid (yc zs (c+1)<=tot zs):=PW zs ae;rw[ez]at hcell;clear ez hzc hc hz;by_cases hbig:r<z
   .have HT:Hid (¬tot zs<=65536):=by
     show¬_;have:=H.out;have:=H2.out;have:=H3.out;omega
    clear H H2 H3;go_wp2;go_ret;exact⟨rfl,yf rfl HT.out⟩
   .have hle:z<=r:=ae
    have G:Hid (r-z+yc zs (c+1)=65536):=by show _=_;have:=H.out;have:=H2.out;omega
    clear H H2 H3;go_wp2
    go_round
    case rel=>exact⟨c+1,r-z,ae,aV,aV,G⟩
    case measure=>simp[intOf];omega
  .have e:c=zs.length:=ae
   have HT:Hid (tot zs<=65536):=by show _<=_;have:=H.out;rw[e,MV]at this;omega
   clear H hc;go_wp2;go_ret;exact⟨rfl,Ia rfl HT.out⟩
theorem zC(ns:List (List UInt8))(hn:uG ns):∀i,i<=ns.length->Aw ns i<=4+261*i
 |0,_=>by simp[Aw]
 |i+1,h=>by have h1:=zC ns hn i ae;have h2:=(hn i ae).1.2;rw[N_];omega
theorem Nv(v:Value)(ns:List (List UInt8))(hl:ns.length<=1000)(hn:uG ns)(w:World)(h:Lies w v (uV ns)):
  Calls Tryz.prog 44 #[v] w λr w'=>r=.returned (.int .i64 (FC ns:Nat))/\w'=w:=by
 obtain⟨ba,cap,rfl,hcap,hc⟩:=h;rw[uK]at hcap⊢;go_enter Tryz.func44,Tryz.ntmps44;go_wp2
 go_loop [3,5,8] (λvr _ vi=>∃c r:Nat,c<=ns.length/\vi=.int .i64 (c:Int)/\vr=.int .i64 (r:Int)/\Hid (Aw ns c=r)) (λ_ _ i=>ns.length-(intOf i).toNat)
 case atStart=>exact⟨0,4,ae,rfl,rfl,by show _=_;simp[Aw]⟩
 case round=>
  obtain⟨c,r,hcl,rfl,rfl,H⟩:=hrel;by_cases hlt:c<ns.length
  .obtain⟨b,off,rfl,hcell⟩:=hc c _ (DR hlt);have hzc:=(hn c hlt).1;have hr:r<=300000:=by have:=zC ns hn c ae;rw[H.out]at this;omega
   obtain⟨s,es⟩:∃s,ns.getD c []=s:=⟨_,rfl⟩
   have H2:Hid (Aw ns (c+1)=r+6+s.length):=by show _=_;rw[N_,es,H.out]
   rw[es]at hcell hzc;have hsz:(ByteArray.mk s.toArray).size=s.length:=by simp[ByteArray.size]
   clear es hc hn H;go_wp2
   go_round
   case rel=>exact⟨c+1,r+6+s.length,ae,aV,aV,H2⟩
   case measure=>simp[intOf];omega
  .have e:c=ns.length:=ae
   have HT:Hid (FC ns=r):=by show _=_;rw[<-I9,<-e];exact H.out
   clear H hc;go_wp2;go_ret;exact⟨CY (by rw[HT.out]),rfl⟩
theorem OM(s:List UInt8):(ByteArray.mk s.toArray).size=s.length:=by simp[ByteArray.size]
theorem UY(s:List UInt8)(h:1<=s.length/\s.length<=255)(w:World):
  Calls Tryz.prog 22 #[.string ⟨s.toArray⟩] w λr w'=>r=.returned (.bool true)/\w'=w:=by
 have hsz:=OM s;go_enter Tryz.func22,Tryz.ntmps22;go_wp2;go_ret;exact⟨BB az,rfl⟩
theorem WQ(s:List UInt8)(h:¬(1<=s.length/\s.length<=255))(hs:s.length<=9223372036854775807)(w:World):
  Calls Tryz.prog 22 #[.string ⟨s.toArray⟩] w λr w'=>r=.returned (.bool false)/\w'=w:=by
 have hsz:=OM s;rcases eG s.length with h0|h0
 .rw[h0]at hsz;clear h h0;go_enter Tryz.func22,Tryz.ntmps22;exact aqd
 .have h1:255<s.length:=ae;clear h;go_enter Tryz.func22,Tryz.ntmps22;go_wp2;go_ret;exact⟨BB az,rfl⟩
def PU(ns:List (List UInt8))(zs:List Int):Prop:=ns.length=zs.length/\uG ns/\JP zs
def Ik(ns:List (List UInt8))(zs:List Int):Prop:=ns.length<=1000/\tot zs<=65536/\FC ns<=300000
theorem Oj(vN vS:Value)(ns:List (List UInt8))(zs:List Int)(hn:ns.length<=9223372036854775807)(hzl:zs.length<=9223372036854775807)(hok:PU ns zs)(w:World)(h1:Lies w vN (uV ns))(h2:Lies w vS (Dh zs)):
  Calls Tryz.prog 27 #[vN,vS] w λr w'=>w'=w/\IP r (Ik ns zs):=by
 obtain⟨ba,cap,rfl,hcap,hc⟩:=id h1;rw[uK]at hcap h1⊢;by_cases q1:ns.length<=1000
 .have K1:=VQ vS zs hzl hok.2.2 w h2;by_cases q2:tot zs<=65536
  .have K2:=Nv _ ns q1 hok.2.1 w h1;obtain⟨m,em⟩:∃m,FC ns=m:=⟨_,rfl⟩;have EM:Hid (FC ns=m):=em;rw[em]at K2
   have hm:m<=1000000000:=by exact arw
   have Q2:Hid (tot zs<=65536):=q2;clear h1 h2 hc em hok q2;go_enter Tryz.func27,Tryz.ntmps27
   go_wp2_with(first|(go_at_call 43;refine K1.mono ?_;rintro r w' ⟨hw',hb⟩;obtain rfl:=hb.yes Q2.out;obtain rfl:=hw'.symm)|(go_at_call 44;refine K2.mono ?_;rintro r w' ⟨rfl,hw'⟩;obtain rfl:=hw'.symm))
   go_ret;by_cases q3:m<=300000
   .exact⟨rfl,Ia (BB az) ⟨q1,Q2.out,by rw[EM.out];exact q3⟩⟩
   .exact⟨rfl,yf (BB az) λh=>q3 (by have:=h.2.2;rw[EM.out]at this;exact this)⟩
  .have Q2:Hid (¬tot zs<=65536):=q2;clear h1 h2 hc hok q2;go_enter Tryz.func27,Tryz.ntmps27
   go_wp2_with(first|(go_at_call 43;refine K1.mono ?_;rintro r w' ⟨hw',hb⟩;obtain rfl:=hb.no Q2.out;obtain rfl:=hw'.symm))
   go_ret;exact⟨rfl,yf rfl λh=>Q2.out h.2.1⟩
 .clear h1 h2 hc;go_enter Tryz.func27,Tryz.ntmps27;go_wp2;go_ret;exact⟨rfl,yf rfl λh=>q1 h.1⟩
def zT(k n:Int):Prop:=1<=k/\k<=n/\n<=128
theorem zU(k n:Int)(w:World):
  Calls Tryz.prog 21 #[.int .i64 k,.int .i64 n] w λe w'=>w'=w/\IP e (zT k n):=by
 by_cases h1:1<=k
 .by_cases h2:k<=n
  .by_cases h3:n<=128
   .have HF:Hid (zT k n):=⟨h1,h2,h3⟩;go_enter Tryz.func21,Tryz.ntmps21;go_wp2;go_ret;exact⟨rfl,Ia rfl HF.out⟩
   .have HF:Hid (¬zT k n):=λh=>h3 h.2.2
    go_enter Tryz.func21,Tryz.ntmps21;exact aqJ
  .have HF:Hid (¬zT k n):=λh=>h2 h.2.1
   go_enter Tryz.func21,Tryz.ntmps21;exact aqJ
 .have HF:Hid (¬zT k n):=λh=>h1 h.1
  go_enter Tryz.func21,Tryz.ntmps21;exact aqJ
def yP(k n c:Int):Prop:=zT k n/\1<=c/\c<=65536
theorem Ri(k n c:Int)(w:World):
  Calls Tryz.prog 15 #[.agg #[.int .i64 k,.int .i64 n,.int .i64 c]] w λe w'=>Below w.heap.size w w'/\IP e (yP k n c):=by
 by_cases h1:zT k n
 .have H1:Hid (zT k n):=h1;clear h1;by_cases h2:1<=c
  .by_cases h3:c<=65536
   .go_enter Tryz.func15,Tryz.ntmps15
    go_wp2_with(first|(go_at_call 21;refine(zU _ _ _).mono ?_;rintro r w' ⟨hw',hb⟩;obtain rfl:=hb.yes H1.out;obtain rfl:=hw'.symm))
    go_ret;exact⟨by first|exact aA _ _|exact(aA _ _).alloc (ak _) _,Ia rfl ⟨H1.out,h2,h3⟩⟩
   .go_enter Tryz.func15,Tryz.ntmps15
    go_wp2_with(first|(go_at_call 21;refine(zU _ _ _).mono ?_;rintro r w' ⟨hw',hb⟩;obtain rfl:=hb.yes H1.out;obtain rfl:=hw'.symm))
    go_ret;exact⟨by first|exact aA _ _|exact(aA _ _).alloc (ak _) _,yf (BB az) λh=>by have:=h.2.2;omega⟩
  .go_enter Tryz.func15,Tryz.ntmps15
   go_wp2_with(first|(go_at_call 21;refine(zU _ _ _).mono ?_;rintro r w' ⟨hw',hb⟩;obtain rfl:=hb.yes H1.out;obtain rfl:=hw'.symm))
   go_ret;exact⟨by first|exact aA _ _|exact(aA _ _).alloc (ak _) _,yf rfl λh=>by have:=h.2.1;omega⟩
 .have H1:Hid (¬zT k n):=h1;clear h1;go_enter Tryz.func15,Tryz.ntmps15
  go_wp2_with(first|(go_at_call 21;refine(zU _ _ _).mono ?_;rintro r w' ⟨hw',hb⟩;obtain rfl:=hb.no H1.out;obtain rfl:=hw'.symm))
  go_ret;exact⟨by first|exact aA _ _|exact(aA _ _).alloc (ak _) _,yf rfl λh=>H1.out h.1⟩
def zq(k i t:Nat):Int:=if k<=i then(sF k t:Int)else max 0 (min (sF k t:Int) ((t:Int)-((i*sF k t:Nat):Int)))
theorem B_{k:Nat}(hk:1<=k)(t:Nat):sF k t<=t:=by
 unfold sF;rcases eG t with rfl|h
 .rw[nH ae];omega
 .have h1:(t+k-1)/k<t+1:=by
   rw[anL ae];have:t*1<=t*k:=nz t hk;rw[jZ];omega
  omega
theorem afZ(K I T:Int)(k i t:Nat)(hK:K=k)(hI:I=i)(hT:T=t)(hk:1<=k)(hk2:k<=255)(hi:i<=255)(ht:t<=65536)(w:World):
  Calls Tryz.prog 138 #[.int .i64 K,.int .i64 I,.int .i64 T] w λr w'=>r=.returned (.int .i64 (zq k i t))/\w'=w:=by
 have K1:=Ce K T k t hK hT hk hk2 ht w;subst hK hI hT;have hL:=B_ hk t;unfold zq;obtain⟨L,eL⟩:∃L,sF k t=L:=⟨_,rfl⟩;rw[eL]at K1 hL⊢;obtain⟨p,ep⟩:∃p,i*L=p:=⟨_,rfl⟩;have hp:p<=255*65536:=by rw[<-ep];exact jG hi ae
 have hp2:(i:Int)*(L:Int)=(p:Int):=by rw[<-ep];simp
 rw[ep];clear eL ep hk;by_cases hik:k<=i
 .rw[aj hik];go_enter Tryz.func138,Tryz.ntmps138
  go_wp2_with(first|(go_at_call 77;refine K1.mono ?_;rintro r w' ⟨rfl,hw'⟩;obtain rfl:=hw'.symm))
  exact aqi
 .rw[ah hik];have W1:wrap64 (p:Int)=(p:Int):=aaA _ ae;have W2:wrap64 ((t:Int)-(p:Int))=(t:Int)-(p:Int):=aaA _ ae;rcases mf ((t:Int)-(p:Int)) (L:Int)with c1|c1
  .rcases mf 0 ((t:Int)-(p:Int))with c2|c2
   .have HG:Hid (max 0 (min (L:Int) ((t:Int)-(p:Int)))=(t:Int)-(p:Int)):=kX;go_enter Tryz.func138,Tryz.ntmps138
    go_wp2_with(first|(go_at_call 77;refine K1.mono ?_;rintro r w' ⟨rfl,hw'⟩;obtain rfl:=hw'.symm))
    all_goals go_ret
    all_goals exact⟨CY mV,rfl⟩
   .have HG:Hid (max 0 (min (L:Int) ((t:Int)-(p:Int)))=0):=kX;go_enter Tryz.func138,Tryz.ntmps138
    go_wp2_with(first|(go_at_call 77;refine K1.mono ?_;rintro r w' ⟨rfl,hw'⟩;obtain rfl:=hw'.symm))
    all_goals go_ret
    all_goals exact⟨CY mV,rfl⟩
  .rcases eG L with c2|c2
   .have HG:Hid (max 0 (min (L:Int) ((t:Int)-(p:Int)))=0):=kX;subst c2;go_enter Tryz.func138,Tryz.ntmps138
    go_wp2_with(first|(go_at_call 77;refine K1.mono ?_;rintro r w' ⟨rfl,hw'⟩;obtain rfl:=hw'.symm))
    all_goals go_ret
    all_goals exact⟨CY (by rw[HG.out];try rfl),rfl⟩
   .have HG:Hid (max 0 (min (L:Int) ((t:Int)-(p:Int)))=L):=kX;go_enter Tryz.func138,Tryz.ntmps138
    go_wp2_with(first|(go_at_call 77;refine K1.mono ?_;rintro r w' ⟨rfl,hw'⟩;obtain rfl:=hw'.symm))
    all_goals go_ret
    all_goals exact⟨CY mV,rfl⟩
structure Sh.In(s:Sh)(w:World)(vN vS vC:Value):Prop where
 names:Lies w vN (uV s.ns)
 sizes:Lies w vS (Dh s.zs)
 qx:Lies w vC (rF s.qx)
 nl:s.ns.length<=9223372036854775807
 zl:s.zs.length<=9223372036854775807
 cl:s.qx.length<=9223372036854775807
 ml:∀n∈s.ns,n.length<=9223372036854775807
theorem Sh.adz(s:Sh):s.Fine↔yP s.K s.N s.C/\0<=s.I/\s.I<s.N:=
 ⟨λh=>⟨⟨⟨h.k1,h.kn,h.n1⟩,h.c1,h.c2⟩,h.i0,h.iN⟩,λh=>⟨h.1.1.1,h.1.1.2.1,h.1.1.2.2,h.2.1,h.2.2,h.1.2.1,h.1.2.2⟩⟩
theorem Sh.YP(s:Sh):s.Listed↔PU s.ns s.zs:=⟨λh=>⟨h.len,h.names,h.sizes⟩,λh=>⟨h.1,h.2.1,h.2.2⟩⟩
theorem Sh.agO(s:Sh):s.Few↔Ik s.ns s.zs:=⟨λh=>⟨h.adt,h.bytes,h.Lj⟩,λh=>⟨h.1,h.2.1,h.2.2⟩⟩
def QL(l:List UInt8)(F:Int):Int:=match(List.range l.length).find? (λm:Nat=>decide (F<=(m:Int)/\sH l m≠0))with
 |some m=>(m:Int)
 |none=> -1
theorem QV.is{l:List UInt8}{F:Int}{r:Ending}(h:QV l F r):r=.returned (.int .i64 (QL l F)):=by
 obtain⟨x,rfl,hx⟩:=h;rcases hx with⟨rfl,hz⟩|⟨m,rfl,h1,h2,h3,h4⟩
 .have:(List.range l.length).find? (λm:Nat=>decide (F<=(m:Int)/\sH l m≠0))=none:=by
   rw[nP];intro m hm;have:=hz m;simp only[gp]at hm;simp only[gU];rintro⟨g1,g2⟩;exact g2 (this g1 hm)
  unfold QL;rw[this]
 .have:(List.range l.length).find? (λm:Nat=>decide (F<=(m:Int)/\sH l m≠0))=some m:=by
   rw[nO];refine⟨by simp only[gU];exact⟨h1,h3⟩,iT,λj hj=>?_⟩;have:=h4 j hj;simp only[an0,pX];rintro⟨g1,g2⟩;exact g2 (this g1)
  unfold QL;rw[this]
theorem aas(F:Int)(hF: -1000000000000<=F/\F<=1000000000000)(v:Value)(l:List UInt8)(hl:l.length<=9223372036854775807)(w:World)(h:Lies w v (rF l)):
  Calls Tryz.prog 139 #[v,.int .i64 F] w λr w'=>r=.returned (.int .i64 (QL l F))/\w'=w:=
 (VP F hF v l hl w h).mono λ_ _ hx=>⟨hx.2.is,hx.1⟩
theorem Lies.drewN{w:World}{v:Value}{xs:List Value}(h:Lies w v xs)(n:Nat):Lies (w.drewN n) v xs:=by
 obtain⟨ba,cap,rfl,hle,hc⟩:=h
 exact⟨ba,cap,rfl,hle,λj u hj=>by obtain⟨b,off,e,hh⟩:=hc j u hj;exact⟨b,off,e,by rw[<-hh];simp⟩⟩
theorem below_drewN{B:Nat}{a w:World}(h:Below B a w)(n:Nat):Below B a (w.drewN n):=h.trans ⟨rfl,rfl,rfl,ak _,λ_ _=>rfl⟩
theorem Zb(v:Value)(zs:List Int)(hl:zs.length<=9223372036854775807)(hzo:JP zs)(ht:tot zs<=65536)(w:World)(h:Lies w v (Dh zs)):
  Calls Tryz.prog 65 #[v] w λr w'=>r=.returned (.int .i64 (tot zs:Nat))/\w'=w:=by
 obtain⟨ba,cap,rfl,hcap,hcz⟩:=h;rw[Ci]at hcap⊢;obtain⟨t,et⟩:∃t,tot zs=t:=⟨_,rfl⟩;have hto:∀c,c<=zs.length->yc zs c<=t:=λc hc=>et▸PW zs hc
 have hall:yc zs zs.length=t:=by rw[MV,et]
 rw[et]at ht⊢;clear et;go_enter Tryz.func65,Tryz.ntmps65;go_wp2
 go_loop [3,5,8] (λvt _ vi=>∃c:Nat,c<=zs.length/\vi=.int .i64 (c:Int)/\vt=.int .i64 (yc zs c:Nat)) (λ_ _ i=>zs.length-(intOf i).toNat)
 case atStart=>exact⟨0,ae,rfl,rfl⟩
 case round=>
  obtain⟨c,als,rfl,rfl⟩:=hrel;by_cases hlt:c<zs.length
  .obtain⟨b,off,rfl,hcell⟩:=hcz c _ (U1 hlt);have hzc:=hzo c hlt;obtain⟨z,e2⟩:∃z:Nat,zs.getD c 0=(z:Int):=⟨(zs.getD c 0).toNat,ae⟩
   have HS:Hid (yc zs (c+1)=yc zs c+z):=by show _=_;rw[Ej,e2];simp
   have hb2:yc zs c+z<=65536:=by rw[<-HS.out];exact aK (hto (c+1) ae) ht
   rw[e2]at hcell;obtain⟨y,ey⟩:∃y,yc zs c=y:=⟨_,rfl⟩;rw[ey]at HS hb2⊢;clear e2 hzc hcz hzo ey hall hto;go_wp2
   go_round
   case rel=>exact⟨c+1,ae,aV,by rw[HS.out];go_num⟩
   case measure=>simp[intOf];omega
  .obtain rfl:c=zs.length:=ae;rw[hall];clear hcz hzo hall hto;exact aqd
section
variable (K N I C:Int)(ns:List (List UInt8))(zs:List Int)(qx:List UInt8)(vN vS vC:Value)(w:World)(h:(Sh.mk K N I C ns zs qx).In w vN vS vC)(H1:Hid (yP K N C))(i0:0<=I)(iN:I<N)
