import Derived.Test.YtlghjjennhpjeaaGreatDoorHqE
import Derived.Deep.CutRange
set_option maxHeartbeats 4000000
set_option maxRecDepth 100000
namespace Go.Proofs.Y
open Go.Proofs.Tryz
open Go.RowKit Go.Deep
def acb(w:ah)(v:ai)(xs:aK):Prop:=
 (v=.slice none 0 0/\xs=[])\/∃g off cap,v=.slice (some ⟨g,off,none⟩) xs.length cap/\∀j u,xs[j]?=some u->w.cell? ⟨g,off+j,none⟩=some u
theorem acb.heap{w w':ah}{v:ai}{xs:aK}(h:acb w v xs)(hh:w'.heap=w.heap):acb w' v xs:=by
 rcases h with h|⟨g,off,cap,rfl,hc⟩
 .exact .inl h
 .exact .inr ⟨g,off,cap,rfl,λj u hj=>by have:=hc j u hj;unfold World.cell? at*;rw[hh];exact this⟩
theorem Ld{w:ah}{base e n:Nat}{v:ai}{xs:aK}(h:w.ownsRow base e 1 v n xs):acb w v xs:=by
 have hl:xs.length=n:=by have:=h.1;omega
 rcases h.2 with⟨rfl,h0⟩|⟨g,cap,cur,rfl,_⟩
 .exact .inl ⟨rfl,kW.1 ag⟩
 .exact .inr ⟨g,0,cap,nZ,λj u hj=>by have NZ:j<xs.length:=(fB.1 hj).1;have hc:=h.cellAt j ag;rw[bJ,hc];exact hj⟩
def uH(l:aC):aK:=l.map λ(z:Nat)=>Value.int .i64 (z:Int)
theorem Dx{l:aC}{j:Nat}(h:j<l.length):(uH l)[j]?=some (.int .i64 ((l.getD j 0:Nat):Int)):=by simp[uH,bQ h]
theorem yE(l:aC):(uH l).length=l.length:=by simp[uH]
def rZ(l:aC):Nat:=if l.sum<=65536 then l.sum else 65537
theorem GX(l:aC):rZ l<=65537:=by unfold rZ;split<;>omega
theorem VD(l:aC)(i:Nat):(l.take i).sum<=l.sum:=by have:=jd (l₁:=l.take i) (l₂:=l.drop i);rw[oV]at this;omega
theorem WZ{l:aC}{i:Nat}(h:i<l.length):(l.take (i+1)).sum=(l.take i).sum+l.getD i 0:=by rw[oU h,jd];simp[bQ h]
theorem GY(v:ai)(l:aC)(hz:∀i,l.getD i 0<2^63)(hl:l.length<2^60)(w:ah)(h:acb w v (uH l)):
  Calls prog 62 #[v] w λr w'=>r=.returned (.int .i64 (rZ l:Nat))/\w'=w:=by
 obtain⟨ba,cap,rfl⟩:∃ba cap,v=.slice ba l.length cap:=by
  rcases h with⟨rfl,h0⟩|⟨g,off,cap,rfl,_⟩
  .have:l=[]:=by simpa[uH]using h0
   subst this;exact⟨none,0,rfl⟩
  .exact⟨_,cap,by rw[yE]⟩
 go_enter func62,ntmps62;go_wp2
 go_loop [3,4] (λvt vi=>∃i:Nat,i<=l.length/\vi=.int .i64 (i:Int)/\vt=.int .i64 ((l.take i).sum:Nat)/\(l.take i).sum<=65536) (λ_ i=>l.length-(intOf i).toNat)
 case atStart=>exact⟨0,ag,rfl,aA,aA⟩
 case round=>
  obtain⟨i,hi,rfl,rfl,hs⟩:=hrel;by_cases qB:i<l.length
  .obtain⟨a,hc⟩:∃a,ba=some a/\a.spot=none/\w.cell? ⟨a.block,a.off+i,none⟩=some (.int .i64 ((l.getD i 0:Nat):Int)):=by
    rcases h with⟨h0,h1⟩|⟨g,off,c,e,hc⟩
    .have:l=[]:=by simpa[uH]using h1
     subst this;simp at qB
    .injection e with e1 e2 e3;exact⟨_,e1,rfl,hc i _ (Dx qB)⟩
   obtain⟨rfl,hsp,hcell⟩:=hc;obtain⟨b,off,sp⟩:=a;simp only at hsp hcell;subst hsp;have hz':=hz i;have H1:Hid _:=WZ qB;have H2:Hid _:=VD l (i+1);obtain⟨z,ez⟩:∃z,l.getD i 0=z:=⟨_,rfl⟩;obtain⟨s,es⟩:∃s,(l.take i).sum=s:=⟨_,rfl⟩;rw[ez]at hcell hz' H1;rw[es]at hs H1⊢;clear ez es h hz;by_cases akW:65536<z
   .have HT:Hid (rZ l=65537):=by
     exact axW
    clear H1 H2;exact axl
   .by_cases arA:65536<s+z
    .have HT:Hid (rZ l=65537):=by
      exact axW
     clear H1 H2;exact axl
    .clear H2;go_wp2
     go_round
     case rel=>exact⟨i+1,ag,aV,by rw[H1.out];go_num,by rw[H1.out];omega⟩
     case measure=>simp[intOf];omega
  .have e:l.take i=l:=gZ ag;rw[e]at hs⊢;have HT:Hid (rZ l=l.sum):=by show rZ l=l.sum;unfold rZ;rw[ax hs]
   obtain⟨s,es⟩:∃s,l.sum=s:=⟨_,rfl⟩;rw[es]at HT hs⊢;clear e h hz es;exact ayg
def uu(k:Nat)(l:aC):Nat:=(rZ l+k-1)/k
theorem VE{k:Nat}(hk:1<=k)(l:aC):uu k l=if rZ l/k*k<rZ l then rZ l/k+1 else rZ l/k:=by
 unfold uu;generalize rZ l=t;have h1:=lX t k;have h2:=jb t (show 0<k by omega);rw[fQ]at h1;split
 .rename_i h;rw[lV]
  .rw[iM];omega
  .rw[iM,iM];omega
 .rename_i h;rw[lV]
  .omega
  .rw[iM];omega
theorem ND(K:Int)(k:Nat)(hK:K=k)(hk:1<=k)(SY:k<=255)(v:ai)(l:aC)(hz:∀i,l.getD i 0<2^63)(hl:l.length<2^60)(w:ah)(h:acb w v (uH l)):
  Calls prog 32 #[.int .i64 K,v] w λr w'=>r=.returned (.int .i64 (uu k l:Nat))/\w'=w:=by
 subst hK;have HL:Hid _:=VE hk l;have ht:=GX l;obtain⟨t,et⟩:∃t,rZ l=t:=⟨_,rfl⟩;have ET:Hid (rZ l=t):=et;rw[et]at ht HL;clear et;obtain⟨q,eq⟩:∃q,t/k=q:=⟨_,rfl⟩;have hq:q<=t:=eq▸nz _ _;have hqk:q*k<=t:=eq▸auN _ _;rw[eq]at HL;have U1:∀n:Int,-9223372036854775808<=n/\n<=9223372036854775807->wrap64 n=n:=λn hn=>(IntWalk.i64_left n).symm.trans (dH n hn)
 have W1:Hid (wrap64 ((t:Int)/(k:Int))=(q:Int)):=by exact ayw
 have W2:Hid (wrap64 ((q:Int)*(k:Int))=((q*k:Nat):Int)):=by exact axV
 have W3:Hid (wrap64 ((q:Int)+1)=((q+1:Nat):Int)):=by exact ayI
 clear U1 hq hqk eq;go_enter func32,ntmps32
 go_wp2_with(first|(go_at_call 62;refine(GY v l hz hl _ h).mono ?_;rintro r w' ⟨rfl,sH⟩;obtain rfl:=sH.symm;rw[ET.out]))
 .exact ay3
 .exact ayT
theorem Yk{α:Type}{a b:List α}(hl:a.length=b.length)(h:∀t,t<a.length->a[t]?=b[t]?):a=b:=by
 apply jk;intro i;by_cases hi:i<a.length
 .exact h i hi
 .rw[h_ ag,h_ ag]
theorem qP.len{w:ah}{v:ai}{xs:aK}(h:qP w v xs):∃ba cap,v=.slice ba xs.length cap:=by obtain⟨ba,cap,e,_⟩:=h;exact⟨ba,cap,e⟩
theorem qP.get{w:ah}{ba:aW}{cap n:Nat}{xs:aK}(h:qP w (.slice ba n cap) xs){j:Nat}{u:ai}(hj:xs[j]?=some u):∃b off,ba=some ⟨b,off,none⟩/\w.cell? ⟨b,off+j,none⟩=some u:=by obtain⟨ba',anc,e,_,h3⟩:=h;cases e;exact h3 j u hj
theorem BN{w w':ah}(h:∃m,w'=w.drewN m):∃m,w'.drew=w.drewN m:=by obtain⟨m,rfl⟩:=h;exact⟨m+1,rfl⟩
theorem ag6(a b:List (aj))(va vb:ai)(w:ah)(ha:qP w va (uU a))(hb:qP w vb (uU b))(hl:a.length<=1048576):
  Calls prog 71 #[va,vb] w λr w'=>r=.returned (.bool (decide (a=b)))/\∃m,w'=w.drewN m:=by
 obtain⟨pa,ca,rfl⟩:=ha.len;obtain⟨pb,cb,rfl⟩:=hb.len;rw[xx]at ha hb⊢;rw[xx];by_cases hn:a.length=b.length
 .have h1:((a.length:Int)==(b.length:Int))=true:=aJ;go_enter func71,ntmps71;go_wp2
  go_loopw [5,13] (λ_ vi wr=>∃j:Nat,j<=a.length/\vi=.int .i64 (j:Int)/\(∃m,wr=w.drewN m)/\∀t,t<j->a[t]?=b[t]?) (λ_ vi _=>a.length-(intOf vi).toNat)
  case atStart=>exact⟨0,ag,rfl,⟨0,rfl⟩,λt ht=>absurd ht ag⟩
  case round=>
   obtain⟨j,hj,rfl,hw,I_⟩:=hrel;by_cases qB:j<a.length
   .have xZ:(j:Int)<(a.length:Int):=ag;have Ku:(j:Int)<(b.length:Int):=ag;obtain⟨ga,oa,rfl,c1⟩:=ha.get (Aq qB);obtain⟨gb,ob,rfl,c2⟩:=hb.get (Aq (l:=b) (j:=j) ag);replace c1:wr.cell? ⟨ga,oa+j,none⟩=some (.string ⟨(a.getD j []).toArray⟩):=by obtain⟨m,rfl⟩:=hw;exact c1
    replace c2:wr.cell? ⟨gb,ob+j,none⟩=some (.string ⟨(b.getD j []).toArray⟩):=by obtain⟨m,rfl⟩:=hw;exact c2
    by_cases e:a.getD j []=b.getD j []
    .have hs:∀t,t<j+1->a[t]?=b[t]?:=λt ht=>by
      by_cases et:t=j
      .exact ayJ
      .exact I_ t ag
     rw[e]at c1;clear hb ha
     go_wp2_with fail
     go_region;go_wp2
     go_roundw
     case rel=>exact⟨j+1,ag,aV,BN hw,hs⟩
     case measure=>simp[intOf];omega
    .have hne:(a.getD j []==b.getD j [])=false:=lM.2 e;have hd:decide (a=b)=false:=dY λh=>e iU
     clear hb ha;generalize a.getD j []=x at*;generalize b.getD j []=y at*
     go_wp2_with fail
     go_region;go_wp2;go_ret;exact⟨aum,BN hw⟩
   .exact ayK
 .have h1:((a.length:Int)==(b.length:Int))=false:=aJ;have hd:decide (a=b)=false:=dY λh=>hn iU
  go_enter func71,ntmps71;go_wp2;go_ret;exact⟨aum,0,rfl⟩
theorem ag7(a b:aC)(va vb:ai)(w:ah)(ha:qP w va (uH a))(hb:qP w vb (uH b))(hl:a.length<=1048576):
  Calls prog 72 #[va,vb] w λr w'=>r=.returned (.bool (decide (a=b)))/\∃m,w'=w.drewN m:=by
 obtain⟨pa,ca,rfl⟩:=ha.len;obtain⟨pb,cb,rfl⟩:=hb.len;rw[yE]at ha hb⊢;rw[yE];by_cases hn:a.length=b.length
 .have h1:((a.length:Int)==(b.length:Int))=true:=aJ;go_enter func72,ntmps72;go_wp2
  go_loopw [5,13] (λ_ vi wr=>∃j:Nat,j<=a.length/\vi=.int .i64 (j:Int)/\(∃m,wr=w.drewN m)/\∀t,t<j->a[t]?=b[t]?) (λ_ vi _=>a.length-(intOf vi).toNat)
  case atStart=>exact⟨0,ag,rfl,⟨0,rfl⟩,λt ht=>absurd ht ag⟩
  case round=>
   obtain⟨j,hj,rfl,hw,I_⟩:=hrel;by_cases qB:j<a.length
   .have xZ:(j:Int)<(a.length:Int):=ag;have Ku:(j:Int)<(b.length:Int):=ag;obtain⟨ga,oa,rfl,c1⟩:=ha.get (Dx qB);obtain⟨gb,ob,rfl,c2⟩:=hb.get (Dx (l:=b) (j:=j) ag);replace c1:wr.cell? ⟨ga,oa+j,none⟩=some (.int .i64 ((a.getD j 0:Nat):Int)):=by obtain⟨m,rfl⟩:=hw;exact c1
    replace c2:wr.cell? ⟨gb,ob+j,none⟩=some (.int .i64 ((b.getD j 0:Nat):Int)):=by obtain⟨m,rfl⟩:=hw;exact c2
    by_cases e:a.getD j 0=b.getD j 0
    .have hs:∀t,t<j+1->a[t]?=b[t]?:=λt ht=>by
      by_cases et:t=j
      .exact ayJ
      .exact I_ t ag
     rw[e]at c1;clear hb ha
     go_wp2_with fail
     go_region;go_wp2
     go_roundw
     case rel=>exact⟨j+1,ag,aV,BN hw,hs⟩
     case measure=>simp[intOf];omega
    .have hne:(((a.getD j 0:Nat):Int)==((b.getD j 0:Nat):Int))=false:=lM.2 λx=>e ag
     have hd:decide (a=b)=false:=dY λh=>e iU
     clear hb ha;generalize a.getD j 0=x at*;generalize b.getD j 0=y at*
     go_wp2_with fail
     go_region;go_wp2;go_ret;exact⟨aum,BN hw⟩
   .exact ayK
 .have h1:((a.length:Int)==(b.length:Int))=false:=aJ;have hd:decide (a=b)=false:=dY λh=>hn iU
  go_enter func72,ntmps72;go_wp2;go_ret;exact⟨aum,0,rfl⟩
def eR:Option (Nat×Nat)->Nat
 |none=>0
 |some x=>x.1
def pR:Option (Nat×Nat)->Nat
 |none=>0
 |some x=>x.2
def ug(r s:Option (Nat×Nat)):Option (Nat×Nat):=match r with|none=>s|some x=>some x
def PL(r:Option (Nat×Nat)):Prop:=∀x,r=some x->x.1≠0
theorem DW:PL none:=λ_ h=>gp
theorem BI{x y:Nat}(h:x≠0):PL (some (x,y)):=λ_ e=>by cases e;exact h
theorem PL.or{r s:Option (Nat×Nat)}(h:PL r)(h':PL s):PL (ug r s):=by
 cases r with
 |none=>exact h'
 |some x=>exact h
theorem ZV{r s:Option (Nat×Nat)}(h:PL r):eOf s (eR r)=eR (ug r s):=by
 cases r with
 |none=>cases s<;>simp[eOf,eR,ug,first]
 |some x=>rw[Zg (by exact h x rfl)];rfl
theorem ZW{r s:Option (Nat×Nat)}(h:PL r):pOf s (eR r) (pR r)=pR (ug r s):=by
 cases r with
 |none=>cases s<;>simp[pOf,eR,pR,ug,Ia]
 |some x=>rw[Zh (by exact h x rfl)];rfl
theorem La(l:aj):∀(ws:aj)(a:Nat),PL (uS l a ws)
 |[],_=>DW
 |c::ws,a=>by
  unfold uS;split
  .exact BI aB
  .split
   .exact La l ws (a+1)
   .exact BI aB
theorem Ht(l:aj)(a n:Nat):PL (sS l a n):=by
 unfold sS;split
 .exact BI aB
 .split
  .exact DW
  .exact BI aB
def qJ(ok:Bool)(x y:Nat):Option (Nat×Nat):=if ok then none else some (x,y)
theorem wP{ok:Bool}{x y:Nat}(h:x≠0):PL (qJ ok x y):=by
 unfold qJ;split
 .exact DW
 .exact BI h
structure yX(w:ah)(sb:Nat)(v:ai)(at_:Nat)(r:Option (Nat×Nat)):Prop where
 Eo:H_ w sb v at_ (eR r) (pR r)
 errs:PL r
theorem yX.later{w w':ah}{sb:Nat}{v:ai}{at_ B:Nat}{r:Option (Nat×Nat)}{S:Nat->Prop}(h:yX w sb v at_ r)(hb:qG B S w w')(h1:sb<B)(h2:¬S sb):yX w' sb v at_ r:=⟨h.Eo.later hb h1 h2,h.errs⟩
theorem yX.heap{w w':ah}{sb:Nat}{v:ai}{at_:Nat}{r:Option (Nat×Nat)}(h:yX w sb v at_ r)(hh:w'.heap=w.heap):yX w' sb v at_ r:=⟨h.Eo.heap hh,h.errs⟩
theorem yX.lt{w:ah}{sb:Nat}{v:ai}{at_:Nat}{r:Option (Nat×Nat)}(h:yX w sb v at_ r):sb<w.heap.size:=ql.lt h.Eo
section
variable {sb:Nat}{v:ai}{at_:Nat}{r:Option (Nat×Nat)}{w:ah}
theorem Yl(X Y:Int)(x y:Nat)(hX:X=x)(hY:Y=y)(hx:x≠0)(h:yX w sb v at_ r):
  Calls prog 61 #[.pointer (some ⟨sb,0,none⟩),.int .i64 X,.int .i64 Y] w λq w'=>q=.returned (.tuple #[])/\yX w' sb v at_ (ug r (some (x,y)))/\qG w.heap.size (· =sb) w w':=by
 refine(OX sb X Y x y hX hY v at_ _ _ w h.Eo).mono ?_;rintro q w' ⟨h1,h2,h3⟩;refine⟨h1,⟨?_,h.errs.or (BI hx)⟩,h3⟩;have e1:=ZV (s:=some (x,y)) h.errs;have e2:=ZW (s:=some (x,y)) h.errs;rw[<-e1,<-e2];exact h2
theorem vg(ok:Bool)(X Y:Int)(x y:Nat)(hX:X=x)(hY:Y=y)(hx:x≠0)(h:yX w sb v at_ r):
  Calls prog 31 #[.pointer (some ⟨sb,0,none⟩),.bool ok,.int .i64 X,.int .i64 Y] w λq w'=>q=.returned (.tuple #[])/\yX w' sb v at_ (ug r (qJ ok x y))/\qG w.heap.size (· =sb) w w':=by
 refine(aa9 sb ok X Y x y hX hY v at_ _ _ w h.Eo).mono ?_;rintro q w' ⟨h1,h2,h3⟩;refine⟨h1,⟨?_,h.errs.or (wP hx)⟩,h3⟩;rw[<-ZV h.errs,<-ZW h.errs];cases ok<;>exact h2
end
section
variable {sb bb bo cap:Nat}{l:aj}{at_:Nat}{r:Option (Nat×Nat)}{w:ah}
theorem aeW(ws:aj)(hws:ws.length<100)(BR:bb≠sb)(hl:l.length<2^60)(ha:at_<2^60)(h:yX w sb (.slice (some ⟨bb,bo,none⟩) l.length cap) at_ r)(hb:xM w bb bo l)(Ah:bb<w.heap.size):
  Calls prog 34 #[.pointer (some ⟨sb,0,none⟩),.string ⟨ws.toArray⟩] w λq w'=>q=.returned (.tuple #[])/\yX w' sb (.slice (some ⟨bb,bo,none⟩) l.length cap) at_ (ug r (uS l at_ ws))/\qG w.heap.size (· =sb) w w':=by
 refine(aho sb ws hws bb bo cap BR l hl at_ _ _ ha w h.Eo hb Ah).mono ?_;rintro q w' ⟨h1,h2,h3⟩;refine⟨h1,⟨?_,h.errs.or (La _ _ _)⟩,h3⟩;rw[<-ZV h.errs,<-ZW h.errs];exact h2
theorem VF(N:Int)(n:Nat)(hN:N=n)(hn:n<2^30)(BR:bb≠sb)(hl:l.length<2^60)(uF:l.length<=cap)(ha:at_<2^59)(h:yX w sb (.slice (some ⟨bb,bo,none⟩) l.length cap) at_ r)(hb:xM w bb bo l)(Ah:bb<w.heap.size):
  Calls prog 60 #[.pointer (some ⟨sb,0,none⟩),.int .i64 N] w λq w'=>q=.returned (.tuple #[])/\yX w' sb (.slice (some ⟨bb,bo,none⟩) l.length cap) at_ (ug r (sS l at_ n))/\qG w.heap.size (· =sb) w w':=by
 refine(ai7 sb N n hN hn bb bo cap BR l hl uF at_ _ _ ha w h.Eo hb Ah).mono ?_;rintro q w' ⟨h1,h2,h3⟩;refine⟨h1,⟨?_,h.errs.or (Ht _ _ _)⟩,h3⟩;rw[<-ZV h.errs,<-ZW h.errs];exact h2
theorem zn(A N:Int)(a n:Nat)(hA:A=a)(hN:N=n)(hn:n<=4)(hl:l.length<2^60)(h:yX w sb (.slice (some ⟨bb,bo,none⟩) l.length cap) at_ none)(hb:xM w bb bo l)(hr:a+n<=l.length):
  Calls prog 29 #[.pointer (some ⟨sb,0,none⟩),.int .i64 A,.int .i64 N] w λq w'=>q=.returned (.int .i64 (le l a n:Nat))/\w'=w:=
 ab_ sb A N a n hA hN hn bb bo cap l hl at_ 0 0 w h.Eo hb (λ_=>hr)
theorem afn(A N:Int)(a n:Nat)(hA:A=a)(hN:N=n)(hn:n<=4)(hl:l.length<2^60)(x:Nat×Nat)(h:yX w sb (.slice (some ⟨bb,bo,none⟩) l.length cap) at_ (some x))(hb:xM w bb bo l):
  Calls prog 29 #[.pointer (some ⟨sb,0,none⟩),.int .i64 A,.int .i64 N] w λq w'=>q=.returned (.int .i64 0)/\w'=w:=by
 have hx:x.1≠0:=h.errs x rfl;refine(ab_ sb A N a n hA hN hn bb bo cap l hl at_ x.1 x.2 w h.Eo hb (λe=>absurd e hx)).mono ?_;rintro q w' ⟨h1,h2⟩;rw[au hx]at h1;exact⟨h1,h2⟩
end
def vJ:aj:=[67,65,73,82,78,49]
def Md(r:Option (Nat×Nat))(k n i z c m ln zz:Nat):Option (Nat×Nat):=
 ug (ug (ug (ug (ug (ug (ug (ug r (qJ (decide (1<=k/\k<=128)) 1 6)) (qJ (decide (k<=n/\n<=128)) 1 7)) (qJ (decide (i<n)) 1 8)) (qJ (decide (z=0)) 1 9)) (qJ (decide (1<=c/\c<=65536)) 1 10)) (qJ (decide (4<=m/\m<=300000)) 1 14)) (qJ (decide (ln<=65536)) 1 18)) (qJ (decide (zz=0)) 1 22)
def sG(k n i c:Nat)(a b d:ai):aK:=[.int .i64 (k:Int),.int .i64 (n:Int),.int .i64 (i:Int),.int .i64 (c:Int),a,b,d]
theorem yX.ok{w:ah}{sb:Nat}{v:ai}{at_ x y:Nat}{r:Option (Nat×Nat)}{ok ok':Bool}(h:yX w sb v at_ (ug r (qJ ok x y)))(e:ok=ok'):yX w sb v at_ (ug r (qJ ok' x y)):=e▸h
theorem Ym(sb bb bo cap:Nat)(BR:bb≠sb)(l:aj)(hl:l.length<2^60)(uF:l.length<=cap)(w:ah)(h:yX w sb (.slice (some ⟨bb,bo,none⟩) l.length cap) 0 none)(hb:xM w bb bo l)(Ah:bb<w.heap.size)
  (r:Option (Nat×Nat)) (Z7:ug (ug none (uS l 0 vJ)) (sS l 0 24)=r) (val:Nat->Nat->Nat)
  (Tm:∀(A N:Int)(a n:Nat),A=a->N=n->n<=4->a+n<=32->∀w',yX w' sb (.slice (some ⟨bb,bo,none⟩) l.length cap) 0 r->xM w' bb bo l->
   Calls prog 29 #[.pointer (some ⟨sb,0,none⟩),.int .i64 A,.int .i64 N] w' λq w''=>q=.returned (.int .i64 (val a n:Nat))/\w''=w'):
  Calls prog 28 #[.pointer (some ⟨sb,0,none⟩)] w λq w'=>q=.returned (.agg (sG (val 6 1) (val 7 1) (val 8 1) (val 10 4) (.slice none 0 0) (.slice none 0 0) (.slice none 0 0)).toArray)/\
   yX w' sb (.slice (some ⟨bb,bo,none⟩) l.length cap) 0 (Md r (val 6 1) (val 7 1) (val 8 1) (val 9 1) (val 10 4) (val 14 4) (val 18 4) (val 22 2))/\qG w.heap.size (· =sb) w w':=by
 have Kr:=h.lt;obtain⟨k,ek⟩:∃k,val 6 1=k:=⟨_,rfl⟩;obtain⟨n,en⟩:∃n,val 7 1=n:=⟨_,rfl⟩;obtain⟨i,ei⟩:∃i,val 8 1=i:=⟨_,rfl⟩;obtain⟨c,ec⟩:∃c,val 10 4=c:=⟨_,rfl⟩;obtain⟨m,em⟩:∃m,val 14 4=m:=⟨_,rfl⟩;obtain⟨ln,eln⟩:∃ln,val 18 4=ln:=⟨_,rfl⟩;obtain⟨z,ez⟩:∃z,val 9 1=z:=⟨_,rfl⟩;obtain⟨zz,ezz⟩:∃zz,val 22 2=zz:=⟨_,rfl⟩;have Ek:Hid (val 6 1=k):=ek;have En:Hid (val 7 1=n):=en;have Ei:Hid (val 8 1=i):=ei;have Ec:Hid (val 10 4=c):=ec;have Em:Hid (val 14 4=m):=em;have Eln:Hid (val 18 4=ln):=eln;have Ez:Hid (val 9 1=z):=ez;have Ezz:Hid (val 22 2=zz):=ezz;rw[ek,en,ei,ec,em,eln,ez,ezz];clear ek en ei ec em eln ez ezz;go_enter func28,ntmps28;have hA0:∀o,qG w.heap.size (λ_=>False) w (w.alloc o):=λo=>(qG.refl _ _ _).alloc (ay _) o
 go_upto_region 12 with(first|(go_at_call 34;refine(aeW (sb:=sb) (bb:=bb) (bo:=bo) (cap:=cap) (l:=l) (at_:=0) (r:=none) vJ aB BR hl ag (by exact h.later (hA0 _) Kr id) (by exact hb.later (hA0 _) Ah id) aJ).mono ?_;rintro q w1 ⟨rfl,AZ,yQ⟩)|(go_at_call 60;refine(VF (sb:=sb) (bb:=bb) (bo:=bo) (cap:=cap) (l:=l) (at_:=0) (r:=ug none (uS l 0 vJ)) _ 24 aF ag BR hl uF ag oq (by exact(hb.later (hA0 _) Ah id).later yQ aJ BR) avI).mono ?_;rintro q w2 ⟨rfl,Jc,zJ⟩;rw[Z7]at Jc;obtain⟨QC,rq,Pz⟩:sb<w2.heap.size/\xM w2 bb bo l/\bb<w2.heap.size:=⟨Jc.lt,((hb.later (hA0 _) Ah id).later yQ aJ BR).later zJ avI BR,by have:=yQ.size;have:=zJ.size;simp at*;omega⟩)|(go_at_call 29;refine(Tm _ _ 6 1 aF aF ag ag _ jY jX).mono ?_;rintro q w' ⟨rfl,sH⟩;obtain rfl:=sH.symm;rw[Ek.out])|(go_at_call 29;refine(Tm _ _ 7 1 aF aF ag ag _ jY jX).mono ?_;rintro q w' ⟨rfl,sH⟩;obtain rfl:=sH.symm;rw[En.out])|(go_at_call 29;refine(Tm _ _ 8 1 aF aF ag ag _ jY jX).mono ?_;rintro q w' ⟨rfl,sH⟩;obtain rfl:=sH.symm;rw[Ei.out])|(go_at_call 29;refine(Tm _ _ 10 4 aF aF ag ag _ jY jX).mono ?_;rintro q w' ⟨rfl,sH⟩;obtain rfl:=sH.symm;rw[Ec.out])|(go_at_call 29;refine(Tm _ _ 14 4 aF aF ag ag _ jY jX).mono ?_;rintro q w' ⟨rfl,sH⟩;obtain rfl:=sH.symm;rw[Em.out])|(go_at_call 29;refine(Tm _ _ 18 4 aF aF ag ag _ jY jX).mono ?_;rintro q w' ⟨rfl,sH⟩;obtain rfl:=sH.symm;rw[Eln.out])|(go_at_call 29;refine(Tm _ _ 9 1 aF aF ag ag _ jY jX).mono ?_;rintro q w' ⟨rfl,sH⟩;obtain rfl:=sH.symm;rw[Ez.out])|(go_at_call 29;refine(Tm _ _ 22 2 aF aF ag ag _ jY jX).mono ?_;rintro q w' ⟨rfl,sH⟩;obtain rfl:=sH.symm;rw[Ezz.out]))
 have hX:=ql.made w2 (sG k n i c (.slice none 0 0) (.slice none 0 0) (.slice none 0 0)) 41;have RV:qG w2.heap.size (λ_=>False) w2 (w2.alloc (.cells (sG k n i c (.slice none 0 0) (.slice none 0 0) (.slice none 0 0)).toArray 41)):=qG.alloc (qG.refl _ _ _) (ay _) _;have RX:=Jc.later RV QC id;have Gf:w2.heap.size<(w2.alloc (.cells (sG k n i c (.slice none 0 0) (.slice none 0 0) (.slice none 0 0)).toArray 41)).heap.size:=aA;have hwd:w.heap.size<w1.heap.size:=avI
 have F8:qG w.heap.size (· =sb) w (w2.alloc (.cells (sG k n i c (.slice none 0 0) (.slice none 0 0) (.slice none 0 0)).toArray 41)):=
  (((hA0 _).mono (ay _) (λ_ x=>x.elim)).trans (yQ.mono aA (λ_ x=>x))).trans ((zJ.mono (jJ hwd) (λ_ x=>x)).trans (RV.mono avH (λ_ x=>x.elim)))
 have hR:ql (w2.alloc (.cells (sG k n i c (.slice none 0 0) (.slice none 0 0) (.slice none 0 0)).toArray 41)) w.heap.size (sG 0 0 0 0 (.slice none 0 0) (.slice none 0 0) (.slice none 0 0)) 41:=
  (((ql.made w (sG 0 0 0 0 (.slice none 0 0) (.slice none 0 0) (.slice none 0 0)) 41).later yQ aA ag).later zJ hwd ag).later RV avH id
 have CQ:w2.heap.size≠sb:=ag;have hrx:w.heap.size≠w2.heap.size:=avH;have VT:w.heap.size≠sb:=ag;clear AZ yQ Jc zJ RV rq Pz hwd hA0;unfold sG at hX RX Gf F8 hR;generalize w2.alloc (Obj.cells (List.toArray [Value.int .i64 (k:Int),Value.int .i64 (n:Int),Value.int .i64 (i:Int),Value.int .i64 (c:Int),Value.slice none 0 0,Value.slice none 0 0,Value.slice none 0 0]) 41)=w3 at hX RX Gf F8 hR⊢;generalize w2.heap.size=xb at hX Gf CQ hrx QC⊢;clear QC hb Ah h Z7 Tm;have hB:=qG.refl w3.heap.size (· =sb) w3;have hS:=RX;have hY:=hX;have c0:=hY.cell (i:=0) rfl
 go_cut []from 32 (λwx=>yX wx sb (.slice (some ⟨bb,bo,none⟩) l.length cap) 0 (ug r (qJ (decide (1<=k/\k<=128)) 1 6))/\qG w3.heap.size (· =sb) w3 wx)
 case first=>
  by_cases q1:1<=k
  .go_wp2_with(first|(go_at_call 31;refine(vg (sb:=sb) (at_:=0) (r:=r) _ _ _ 1 6 aF aF aB fZ).mono ?_;rintro q w' ⟨rfl,IJ,Nj⟩))
   go_meet
   exact axc
  .go_wp2_with(first|(go_at_call 31;refine(vg (sb:=sb) (at_:=0) (r:=r) _ _ _ 1 6 aF aF aB fZ).mono ?_;rintro q w' ⟨rfl,IJ,Nj⟩))
   go_meet
   exact axc
 case rest=>
 clear c0;clear hS hB hY;obtain⟨hS,hB⟩:=hcut;have hY:=hX.later hB Gf CQ
 go_upto_region 13 with fail
 have c0:=hY.cell (i:=0) rfl;have c1:=hY.cell (i:=1) rfl
 go_cut []from 32 (λwx=>yX wx sb (.slice (some ⟨bb,bo,none⟩) l.length cap) 0 (ug (ug r (qJ (decide (1<=k/\k<=128)) 1 6)) (qJ (decide (k<=n/\n<=128)) 1 7))/\qG w3.heap.size (· =sb) w3 wx)
 case first=>
  by_cases q1:k<=n
  .go_wp2_with(first|(go_at_call 31;refine(vg (sb:=sb) (at_:=0) (r:=(ug r (qJ (decide (1<=k/\k<=128)) 1 6))) _ _ _ 1 7 aF aF aB fZ).mono ?_;rintro q w' ⟨rfl,IJ,Nj⟩))
   go_meet
   exact axc
  .go_wp2_with(first|(go_at_call 31;refine(vg (sb:=sb) (at_:=0) (r:=(ug r (qJ (decide (1<=k/\k<=128)) 1 6))) _ _ _ 1 7 aF aF aB fZ).mono ?_;rintro q w' ⟨rfl,IJ,Nj⟩))
   go_meet
   exact axc
 case rest=>
 clear c0 c1;clear hS hB hY;obtain⟨hS,hB⟩:=hcut;have hY:=hX.later hB Gf CQ
 go_upto_region 14 with fail
 have c1:=hY.cell (i:=1) rfl;have c2:=hY.cell (i:=2) rfl
 go_cut []from 32 (λwx=>yX wx sb (.slice (some ⟨bb,bo,none⟩) l.length cap) 0 (ug (ug (ug r (qJ (decide (1<=k/\k<=128)) 1 6)) (qJ (decide (k<=n/\n<=128)) 1 7)) (qJ (decide (i<n)) 1 8))/\qG w3.heap.size (· =sb) w3 wx)
 case first=>
  go_wp2_with(first|(go_at_call 31;refine(vg (sb:=sb) (at_:=0) (r:=(ug (ug r (qJ (decide (1<=k/\k<=128)) 1 6)) (qJ (decide (k<=n/\n<=128)) 1 7))) _ _ _ 1 8 aF aF aB fZ).mono ?_;rintro q w' ⟨rfl,IJ,Nj⟩))
  go_meet
  exact axc
 case rest=>
 clear c1 c2;clear hS hB hY;obtain⟨hS,hB⟩:=hcut;have hY:=hX.later hB Gf CQ
 go_upto_region 15 with fail
 go_cut []from 32 (λwx=>yX wx sb (.slice (some ⟨bb,bo,none⟩) l.length cap) 0 (ug (ug (ug (ug r (qJ (decide (1<=k/\k<=128)) 1 6)) (qJ (decide (k<=n/\n<=128)) 1 7)) (qJ (decide (i<n)) 1 8)) (qJ (decide (z=0)) 1 9))/\qG w3.heap.size (· =sb) w3 wx)
 case first=>
  go_wp2_with(first|(go_at_call 31;refine(vg (sb:=sb) (at_:=0) (r:=(ug (ug (ug r (qJ (decide (1<=k/\k<=128)) 1 6)) (qJ (decide (k<=n/\n<=128)) 1 7)) (qJ (decide (i<n)) 1 8))) _ _ _ 1 9 aF aF aB fZ).mono ?_;rintro q w' ⟨rfl,IJ,Nj⟩))
  go_meet
  exact axc
 case rest=>
 clear hS hB hY;obtain⟨hS,hB⟩:=hcut;have hY:=hX.later hB Gf CQ
 go_upto_region 16 with fail
 have c3:=hY.cell (i:=3) rfl
 go_cut []from 32 (λwx=>yX wx sb (.slice (some ⟨bb,bo,none⟩) l.length cap) 0 (ug (ug (ug (ug (ug r (qJ (decide (1<=k/\k<=128)) 1 6)) (qJ (decide (k<=n/\n<=128)) 1 7)) (qJ (decide (i<n)) 1 8)) (qJ (decide (z=0)) 1 9)) (qJ (decide (1<=c/\c<=65536)) 1 10))/\qG w3.heap.size (· =sb) w3 wx)
 case first=>
  by_cases q1:1<=c
  .go_wp2_with(first|(go_at_call 31;refine(vg (sb:=sb) (at_:=0) (r:=(ug (ug (ug (ug r (qJ (decide (1<=k/\k<=128)) 1 6)) (qJ (decide (k<=n/\n<=128)) 1 7)) (qJ (decide (i<n)) 1 8)) (qJ (decide (z=0)) 1 9))) _ _ _ 1 10 aF aF aB fZ).mono ?_;rintro q w' ⟨rfl,IJ,Nj⟩))
   go_meet
   exact axc
  .go_wp2_with(first|(go_at_call 31;refine(vg (sb:=sb) (at_:=0) (r:=(ug (ug (ug (ug r (qJ (decide (1<=k/\k<=128)) 1 6)) (qJ (decide (k<=n/\n<=128)) 1 7)) (qJ (decide (i<n)) 1 8)) (qJ (decide (z=0)) 1 9))) _ _ _ 1 10 aF aF aB fZ).mono ?_;rintro q w' ⟨rfl,IJ,Nj⟩))
   go_meet
   exact axc
 case rest=>
 clear c3;clear hS hB hY;obtain⟨hS,hB⟩:=hcut;have hY:=hX.later hB Gf CQ
 go_upto_region 17 with fail
 go_cut []from 32 (λwx=>yX wx sb (.slice (some ⟨bb,bo,none⟩) l.length cap) 0 (ug (ug (ug (ug (ug (ug r (qJ (decide (1<=k/\k<=128)) 1 6)) (qJ (decide (k<=n/\n<=128)) 1 7)) (qJ (decide (i<n)) 1 8)) (qJ (decide (z=0)) 1 9)) (qJ (decide (1<=c/\c<=65536)) 1 10)) (qJ (decide (4<=m/\m<=300000)) 1 14))/\qG w3.heap.size (· =sb) w3 wx)
 case first=>
  by_cases q1:4<=m
  .go_wp2_with(first|(go_at_call 31;refine(vg (sb:=sb) (at_:=0) (r:=(ug (ug (ug (ug (ug r (qJ (decide (1<=k/\k<=128)) 1 6)) (qJ (decide (k<=n/\n<=128)) 1 7)) (qJ (decide (i<n)) 1 8)) (qJ (decide (z=0)) 1 9)) (qJ (decide (1<=c/\c<=65536)) 1 10))) _ _ _ 1 14 aF aF aB fZ).mono ?_;rintro q w' ⟨rfl,IJ,Nj⟩))
   go_meet
   exact axc
  .go_wp2_with(first|(go_at_call 31;refine(vg (sb:=sb) (at_:=0) (r:=(ug (ug (ug (ug (ug r (qJ (decide (1<=k/\k<=128)) 1 6)) (qJ (decide (k<=n/\n<=128)) 1 7)) (qJ (decide (i<n)) 1 8)) (qJ (decide (z=0)) 1 9)) (qJ (decide (1<=c/\c<=65536)) 1 10))) _ _ _ 1 14 aF aF aB fZ).mono ?_;rintro q w' ⟨rfl,IJ,Nj⟩))
   go_meet
   exact axc
 case rest=>
 clear hS hB hY;obtain⟨hS,hB⟩:=hcut;have hY:=hX.later hB Gf CQ
 go_upto_region 18 with fail
 go_cut []from 32 (λwx=>yX wx sb (.slice (some ⟨bb,bo,none⟩) l.length cap) 0 (ug (ug (ug (ug (ug (ug (ug r (qJ (decide (1<=k/\k<=128)) 1 6)) (qJ (decide (k<=n/\n<=128)) 1 7)) (qJ (decide (i<n)) 1 8)) (qJ (decide (z=0)) 1 9)) (qJ (decide (1<=c/\c<=65536)) 1 10)) (qJ (decide (4<=m/\m<=300000)) 1 14)) (qJ (decide (ln<=65536)) 1 18))/\qG w3.heap.size (· =sb) w3 wx)
 case first=>
  go_wp2_with(first|(go_at_call 31;refine(vg (sb:=sb) (at_:=0) (r:=(ug (ug (ug (ug (ug (ug r (qJ (decide (1<=k/\k<=128)) 1 6)) (qJ (decide (k<=n/\n<=128)) 1 7)) (qJ (decide (i<n)) 1 8)) (qJ (decide (z=0)) 1 9)) (qJ (decide (1<=c/\c<=65536)) 1 10)) (qJ (decide (4<=m/\m<=300000)) 1 14))) _ _ _ 1 18 aF aF aB fZ).mono ?_;rintro q w' ⟨rfl,IJ,Nj⟩))
  go_meet
  exact axc
 case rest=>
 clear hS hB hY;obtain⟨hS,hB⟩:=hcut;have hY:=hX.later hB Gf CQ
 go_upto_region 19 with fail
 go_cut []from 32 (λwx=>yX wx sb (.slice (some ⟨bb,bo,none⟩) l.length cap) 0 (ug (ug (ug (ug (ug (ug (ug (ug r (qJ (decide (1<=k/\k<=128)) 1 6)) (qJ (decide (k<=n/\n<=128)) 1 7)) (qJ (decide (i<n)) 1 8)) (qJ (decide (z=0)) 1 9)) (qJ (decide (1<=c/\c<=65536)) 1 10)) (qJ (decide (4<=m/\m<=300000)) 1 14)) (qJ (decide (ln<=65536)) 1 18)) (qJ (decide (zz=0)) 1 22))/\qG w3.heap.size (· =sb) w3 wx)
 case first=>
  go_wp2_with(first|(go_at_call 31;refine(vg (sb:=sb) (at_:=0) (r:=(ug (ug (ug (ug (ug (ug (ug r (qJ (decide (1<=k/\k<=128)) 1 6)) (qJ (decide (k<=n/\n<=128)) 1 7)) (qJ (decide (i<n)) 1 8)) (qJ (decide (z=0)) 1 9)) (qJ (decide (1<=c/\c<=65536)) 1 10)) (qJ (decide (4<=m/\m<=300000)) 1 14)) (qJ (decide (ln<=65536)) 1 18))) _ _ _ 1 22 aF aF aB fZ).mono ?_;rintro q w' ⟨rfl,IJ,Nj⟩))
  go_meet
  exact axc
 case rest=>
 clear hS hB hY;obtain⟨hS,hB⟩:=hcut;have hY:=hX.later hB Gf CQ;have hRr:w.heap.size<w3.heap.size:=ql.lt hR;have hQ:=hR.later hB hRr VT;have c0:=hY.cell (i:=0) rfl;have d0:=hQ.cell (i:=0) rfl;have f0:=hQ.frozen 0;have c1:=hY.cell (i:=1) rfl;have d1:=hQ.cell (i:=1) rfl;have f1:=hQ.frozen 1;have c2:=hY.cell (i:=2) rfl;have d2:=hQ.cell (i:=2) rfl;have f2:=hQ.frozen 2;have c3:=hY.cell (i:=3) rfl;have d3:=hQ.cell (i:=3) rfl;have f3:=hQ.frozen 3;have c4:=hY.cell (i:=4) rfl;have d4:=hQ.cell (i:=4) rfl;have f4:=hQ.frozen 4;have c5:=hY.cell (i:=5) rfl;have d5:=hQ.cell (i:=5) rfl;have f5:=hQ.frozen 5;have c6:=hY.cell (i:=6) rfl;have d6:=hQ.cell (i:=6) rfl;have f6:=hQ.frozen 6;go_wp2;have hF:=((((((hQ.set 0 (.int .i64 (k:Int))).set 1 (.int .i64 (n:Int))).set 2 (.int .i64 (i:Int))).set 3 (.int .i64 (c:Int))).set 4 (.slice none 0 0)).set 5 (.slice none 0 0)).set 6 (.slice none 0 0);have hG:qG wc.heap.size (· =w.heap.size) wc _:=((((((((qG.refl wc.heap.size (· =w.heap.size) wc).setCell (p:=⟨w.heap.size,0,none⟩) (.inr rfl) (.int .i64 (k:Int))).setCell (p:=⟨w.heap.size,1,none⟩) (.inr rfl) (.int .i64 (n:Int))).setCell (p:=⟨w.heap.size,2,none⟩) (.inr rfl) (.int .i64 (i:Int))).setCell (p:=⟨w.heap.size,3,none⟩) (.inr rfl) (.int .i64 (c:Int))).setCell (p:=⟨w.heap.size,4,none⟩) (.inr rfl) (.slice none 0 0)).setCell (p:=⟨w.heap.size,5,none⟩) (.inr rfl) (.slice none 0 0)).setCell (p:=⟨w.heap.size,6,none⟩) (.inr rfl) (.slice none 0 0));refine dS (auC rfl _ _ w.heap.size 41 _ (0,0) _ rfl hF underlying41 rfl ak) rfl ?_;have qB:sb<wc.heap.size:=hS.lt;refine⟨rfl,hS.later hG qB (λe=>VT e.symm),?_⟩;have hww:w.heap.size<=wc.heap.size:=bF F8.size hB.size;refine(F8.trans (hB.mono F8.size (λ_ x=>x))).trans ⟨hG.os,hG.tape,hG.output,hG.size,λk hk _=>hG.block k ag ag⟩
theorem aeV(sb bb bo cap:Nat)(BR:bb≠sb)(l:aj)(hl:l.length<2^60)(uF:l.length<=cap)(w:ah)(h:yX w sb (.slice (some ⟨bb,bo,none⟩) l.length cap) 0 none)(hb:xM w bb bo l)(Ah:bb<w.heap.size)
  (h1:uS l 0 vJ=none) (h2:sS l 0 24=none):
  Calls prog 28 #[.pointer (some ⟨sb,0,none⟩)] w λq w'=>q=.returned (.agg (sG (le l 6 1) (le l 7 1) (le l 8 1) (le l 10 4) (.slice none 0 0) (.slice none 0 0) (.slice none 0 0)).toArray)/\
   yX w' sb (.slice (some ⟨bb,bo,none⟩) l.length cap) 0 (Md none (le l 6 1) (le l 7 1) (le l 8 1) (le l 9 1) (le l 10 4) (le l 14 4) (le l 18 4) (le l 22 2))/\qG w.heap.size (· =sb) w w':=by
 have h32:32<=l.length:=by
  unfold sS at h2;split at h2
  .cases h2
  .omega
 exact Ym sb bb bo cap BR l hl uF w h hb Ah none (by rw[h1,h2];rfl) (le l) (λA N a n hA hN hn ha _ hS hB=>zn A N a n hA hN hn hl hS hB ag)
theorem aiM(sb bb bo cap:Nat)(BR:bb≠sb)(l:aj)(hl:l.length<2^60)(uF:l.length<=cap)(w:ah)(h:yX w sb (.slice (some ⟨bb,bo,none⟩) l.length cap) 0 none)(hb:xM w bb bo l)(Ah:bb<w.heap.size)
  (x:Nat×Nat) (Z7:ug (uS l 0 vJ) (sS l 0 24)=some x):
  Calls prog 28 #[.pointer (some ⟨sb,0,none⟩)] w λq w'=>q=.returned (.agg (sG 0 0 0 0 (.slice none 0 0) (.slice none 0 0) (.slice none 0 0)).toArray)/\
   yX w' sb (.slice (some ⟨bb,bo,none⟩) l.length cap) 0 (some x)/\qG w.heap.size (· =sb) w w':=
 Ym sb bb bo cap BR l hl uF w h hb Ah (some x) Z7 (λ_ _=>0) (λA N a n hA hN hn _ _ hS hB=>afn A N a n hA hN hn hl x hS hB)
theorem ae0:(prog.info? 9).map (λi=>(i.zero,i.size,i.bytes))=some (some (.string ⟨#[]⟩),1,16):=ak
theorem anA:(prog.info? 3).map (λi=>(i.zero,i.size,i.bytes))=some (some (.int .i64 0),1,8):=ak
def zC(l:List (aj)):aK:=l.map λs=>Value.string ⟨s.toArray⟩
theorem Py{l:List (aj)}{j:Nat}(h:j<l.length):(zC l)[j]?=some (.string ⟨(l.getD j []).toArray⟩):=by simp[zC,bQ h]
def uh(a b:aj):Bool:=Op.bytesLess a b||a==b
def yC(l:aj)(en:Nat):Nat->Nat->List (aj)->aC->Except (Nat×Nat) (List (aj)×aC×Nat)
 |0,a,ns,zs=>.ok (ns,zs,a)
 |c+1,a,ns,zs=>
  if en<a+2 then .error (7,a)
  else if le l a 2<1\/255<le l a 2\/en<a+6+le l a 2 then .error (7,a)
  else if 0<ns.length/\uh (part l (a+2) (le l a 2)) (ns.getD (ns.length-1) [])=true then .error (7,a+2)
  else if 65536<rZ (zs++[le l (a+2+le l a 2) 4])then .error (7,a+2+le l a 2)
  else yC l en c (a+6+le l a 2) (ns++[part l (a+2) (le l a 2)]) (zs++[le l (a+2+le l a 2) 4])
structure Wp(w:ah)(xb:Nat)(k n i c:Nat)(vN vS vC:ai):Prop where
 row:ql w xb (sG k n i c vN vS vC) 41
theorem Wp.ape{w:ah}{xb k n i c:Nat}{vN vS vC:ai}(h:Wp w xb k n i c vN vS vC)(u:ai):Wp (w.setCell ⟨xb,4,none⟩ u) xb k n i c u vS vC:=⟨h.row.set 4 u⟩
theorem Wp.apf{w:ah}{xb k n i c:Nat}{vN vS vC:ai}(h:Wp w xb k n i c vN vS vC)(u:ai):Wp (w.setCell ⟨xb,5,none⟩ u) xb k n i c vN u vC:=⟨h.row.set 5 u⟩
theorem Wp.ass{w:ah}{xb k n i c:Nat}{vN vS vC:ai}(h:Wp w xb k n i c vN vS vC)(u:ai):Wp (w.setCell ⟨xb,6,none⟩ u) xb k n i c vN vS u:=⟨h.row.set 6 u⟩
theorem Wp.later{w w':ah}{xb k n i c B:Nat}{vN vS vC:ai}{S:Nat->Prop}(h:Wp w xb k n i c vN vS vC)(hb:qG B S w w')(h1:xb<B)(h2:¬S xb):Wp w' xb k n i c vN vS vC:=⟨h.row.later hb h1 h2⟩
theorem qY{w w':ah}{base e size n:Nat}{v:ai}{xs:aK}(h:w.ownsRow base e size v n xs)(hh:∀g,v.ownBlock=some g->w'.heap[g]?=w.heap[g]?):w'.ownsRow base e size v n xs:=by
 refine⟨h.1,?_⟩;rcases h.2 with x|⟨g,cap,cur,rfl,h1,h2,h3⟩
 .exact .inl x
 .exact .inr ⟨g,cap,cur,rfl,h1,(hh g rfl).trans h2,h3⟩
def NR(a b:ai):Prop:=∀g,a.ownBlock=some g->b.ownBlock≠some g
theorem LD{w:ah}{bb bo:Nat}{l:aj}(h:xM w bb bo l)(k:Nat)(hk:l.length=k)(cap:Nat):(convert 24 9 (.slice (some ⟨bb,bo,none⟩) k cap)).run prog w=.ok (.string ⟨l.toArray⟩) w:=by subst hk;refine run_convert_bytes_back w 24 9 5 ⟨bb,bo,none⟩ cap l underlying24 underlying5 underlying9 (λj hj=>?_);rw[Hg,h j hj];simp[sV,bQ hj]
structure Di(w:ah)(sb xb bb bo cap:Nat)(l:aj)(k n i ch:Nat)(vN vS:ai)(ns:List (aj))(zs:aC)(B:Nat)(wr:ah):Prop where
 but:qG B (λk=>k=sb\/k=xb) w wr
 sc:yX wr sb (.slice (some ⟨bb,bo,none⟩) l.length cap) 32 none
 sh:Wp wr xb k n i ch vN vS (.slice none 0 0)
 on:wr.ownsRow B 9 1 vN ns.length (zC ns)
 os:wr.ownsRow B 3 1 vS zs.length (uH zs)
 ap:NR vN vS
def Wl(en:Nat)(r:Except (Nat×Nat) (List (aj)×aC×Nat)):Except (Nat×Nat) (List (aj)×aC):=
 match r with
 | .error e=>.error e
 | .ok (ns,zs,a)=>if a=en then .ok (ns,zs)else .error (7,a)
def vX(l:aj)(m:Nat):Except (Nat×Nat) (List (aj)×aC):=
 match sS l 32 m with
 |some e=>.error e
 |none=>
  if 1000<le l 32 4 then .error (7,32)
  else Wl (32+m) (yC l (32+m) (le l 32 4) 36 [] [])
theorem yX.setAt{w:ah}{sb:Nat}{v:ai}{at_:Nat}{r:Option (Nat×Nat)}(h:yX w sb v at_ r)(x:Nat):yX (w.setCell ⟨sb,1,none⟩ (.int .i64 (x:Int))) sb v x r:=⟨h.Eo.setAt x,h.errs⟩
theorem Ky{l:aj}{a n:Nat}(h:sS l a n=none):a+n+8<=l.length:=by
 unfold sS at h;split at h
 .cases h
 .omega
section
variable (sb xb bb bo cap:Nat)(BR:bb≠sb)(hbx:bb≠xb)(CQ:xb≠sb)(l:aj)(hl:l.length<2^60)(uF:l.length<=cap)(m:Nat)(hm4:4<=m)(hm:m<=300000)(k n i ch N7:Nat)
  (w:ah) (h:yX w sb (.slice (some ⟨bb,bo,none⟩) l.length cap) N7 none) (hx:Wp w xb k n i ch (.slice none 0 0) (.slice none 0 0) (.slice none 0 0)) (hb:xM w bb bo l) (Ah:bb<w.heap.size)
def Gy(w:ah)(sb xb bb bo cap:Nat)(l:aj)(m k n i ch:Nat)(w':ah):Prop:=
 qG w.heap.size (λk=>k=sb\/k=xb) w w'/\
 match vX l m with
 | .error e=>yX w' sb (.slice (some ⟨bb,bo,none⟩) l.length cap) 32 (some e)
 | .ok (ns,zs)=>∃vN vS,Di w sb xb bb bo cap l k n i ch vN vS ns zs w.heap.size w'
include BR hl uF hm4 hm h hb Ah in
theorem Yn(e:Nat×Nat)(he:ug (sS l 32 m) (if sS l 32 m=none then qJ (decide (le l 32 4<=1000)) 7 32 else none)=some e):
  Calls prog 30 #[.pointer (some ⟨sb,0,none⟩),.pointer (some ⟨xb,0,none⟩),.int .i64 (m:Int)] w λq w'=>q=.returned (.tuple #[])/\qG w.heap.size (λk=>k=sb\/k=xb) w w'/\yX w' sb (.slice (some ⟨bb,bo,none⟩) l.length cap) 32 (some e):=by
 have Kr:=h.lt;have c1:=h.Eo.c1;have f1:=ql.frozen h.Eo 1;have h0:=h.setAt 32;have PW:=(qG.refl w.heap.size (· =sb) w).setCell (p:=⟨sb,1,none⟩) (.inr rfl) (.int .i64 32);have xH:=hb.later PW Ah BR
 obtain⟨V,hV,Tm,uw⟩:∃V:Nat,V<2^32/\(∀w',yX w' sb (.slice (some ⟨bb,bo,none⟩) l.length cap) 32 (ug none (sS l 32 m))->xM w' bb bo l->
   Calls prog 29 #[.pointer (some ⟨sb,0,none⟩),.int .i64 32,.int .i64 4] w' λq w''=>q=.returned (.int .i64 (V:Int))/\w''=w')/\
   ug (ug none (sS l 32 m)) (qJ (decide (V<=1000)) 7 32)=some e:=by
  cases hs:sS l 32 m with
  |none=>
   refine⟨le l 32 4,IZ l 4 32,λw' hS hB=>zn _ _ 32 4 rfl rfl ag hl hS hB (by have:=Ky hs;omega),?_⟩;rw[hs]at he;exact he
  |some x=>
   refine⟨0,ag,λw' hS hB=>afn _ _ 32 4 rfl rfl ag hl x hS hB,?_⟩;rw[hs]at he;exact he
 clear he;have HST:Hid _:=uw;clear uw;go_enter func30,ntmps30
 go_wp2_with(first|(go_at_call 60;refine(VF (sb:=sb) (bb:=bb) (bo:=bo) (cap:=cap) (l:=l) (at_:=32) (r:=none) _ m aF ag BR hl uF ag (by exact h0) (by exact xH) aJ).mono ?_;rintro q w1 ⟨rfl,AZ,yQ⟩;have tV:=xH.later yQ aJ BR)|(go_at_call 29;refine(Tm _ oq (by exact tV)).mono ?_;rintro q w' ⟨rfl,sH⟩;obtain rfl:=sH.symm)|(go_at_call 31;refine(vg (sb:=sb) (at_:=32) (r:=ug none (sS l 32 m)) (decide ((V:Int)<=1000)) _ _ 7 32 aF aF aB oq).mono ?_;rintro q w2 ⟨rfl,Jc,zJ⟩))
 have RX:yX w2 sb (.slice (some ⟨bb,bo,none⟩) l.length cap) 32 (some e):=by rw[<-HST.out];exact Jc.ok (by rw[dL];simp<;>omega)
 clear Jc AZ Tm HST
 have F8:qG w.heap.size (λk=>k=sb\/k=xb) w w2:=by have e0:(w.setCell ⟨sb,1,none⟩ (.int .i64 32)).heap.size=w.heap.size:=aA;have:=PW.trans ((yQ.mono ag (λ_ x=>x)).trans (zJ.mono (by have:=yQ.size;omega) (λ_ x=>x)));exact this.mono (ay _) (λ_ x=>.inl x)
 clear PW yQ zJ tV xH h0;have E0:Hid (e.1≠0):=RX.errs e rfl
 go_loopw [8,9,10,11,12] (λva vi _ _ _ wr=>wr=w2/\vi=.int .i64 0/\va=.int .i64 36) (λ_ i _ _ _ _=>1)
 case atStart=>exact⟨rfl,rfl,rfl⟩
 case round=>
  obtain⟨rfl,rfl,rfl⟩:=hrel;have c2:wr.cell? ⟨sb,2,none⟩=some (.int .i64 (e.1:Int)):=RX.Eo.c2;have hE:((e.1:Int)==0)=false:=avP;by_cases hV0:0<V
  .go_wp2_with(first|(go_at_call 31;refine(vg (sb:=sb) (at_:=32) (r:=some e) _ _ _ 7 36 aF aF aB mW).mono ?_;rintro q w4 ⟨rfl,Kv,xX⟩))
   go_end0;exact ayr
  .have e0:V=0:=ag;subst e0
   go_wp2_with(first|(go_at_call 31;refine(vg (sb:=sb) (at_:=32) (r:=some e) _ _ _ 7 36 aF aF aB mW).mono ?_;rintro q w4 ⟨rfl,Kv,xX⟩))
   go_end0;exact ayr
