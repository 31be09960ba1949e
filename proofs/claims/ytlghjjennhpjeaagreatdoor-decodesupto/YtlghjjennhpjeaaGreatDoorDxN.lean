import Derived.Test.YtlghjjennhpjeaaGreatDoorDxC
set_option maxHeartbeats 8000000
set_option maxRecDepth 100000
namespace Go.Proofs.Y
open Go.RowKit Go.Deep
theorem aeZ{s t:vZ}(h:s.names≠t.names\/s.sizes≠t.sizes):D7 s t=false:=by unfold D7;rcases h with h|h<;>simp[h]
theorem Qh{α:Type}{a b:List α}(h:a.length=b.length)(h2:∀j,j<a.length->a[j]?=b[j]?):a=b:=by
 apply jk;intro j;by_cases hj:j<a.length
 .exact h2 j hj
 .rw[h_ ag,h_ ag]
theorem ahA(s t:vZ)(vN vS vC OT OU DX:ai)(w:ah)(hN:qP w vN (uU s.names))(hS:qP w vS (uH s.sizes))(hN':qP w OT (uU t.names))(IJ:qP w OU (uH t.sizes))(hs:s.names.length=s.sizes.length)(ht:t.names.length=t.sizes.length)(hl:s.names.length<=1048576):
  Calls Tryz.prog 35 #[.agg (Me s vN vS vC).toArray,.agg (Me t OT OU DX).toArray] w λr w'=>r=.returned (.bool (D7 s t))/\Below w.heap.size w w':=by
 have hsD:Hid (s.names.length=s.sizes.length):=hs;have htC:Hid (t.names.length=t.sizes.length):=ht;clear hs ht;unfold Me;have b0:Below w.heap.size w (w.alloc (.cells #[.int .i64 (s.k:Int),.int .i64 (s.n:Int),.int .i64 (s.i:Int),.int .i64 (s.c:Int),vN,vS,vC] 41)):=(aO _ _).alloc (ay _) _;have ra:=ql.made w [.int .i64 (s.k:Int),.int .i64 (s.n:Int),.int .i64 (s.i:Int),.int .i64 (s.c:Int),vN,vS,vC] 41;have rb:=ql.made (w.alloc (.cells #[.int .i64 (s.k:Int),.int .i64 (s.n:Int),.int .i64 (s.i:Int),.int .i64 (s.c:Int),vN,vS,vC] 41)) [.int .i64 (t.k:Int),.int .i64 (t.n:Int),.int .i64 (t.i:Int),.int .i64 (t.c:Int),OT,OU,DX] 41;have ra':=ra.later (S:=λ_=>False) (.qw ((aO _ _).alloc (ay _) (.cells #[.int .i64 (t.k:Int),.int .i64 (t.n:Int),.int .i64 (t.i:Int),.int .i64 (t.c:Int),OT,OU,DX] 41))) ra.lt id;have a4:=ra'.cell (i:=4) rfl;have a5:=ra'.cell (i:=5) rfl;have d4:=rb.cell (i:=4) rfl;have d5:=rb.cell (i:=5) rfl;have hsz:(w.alloc (.cells #[.int .i64 (s.k:Int),.int .i64 (s.n:Int),.int .i64 (s.i:Int),.int .i64 (s.c:Int),vN,vS,vC] 41)).heap.size=w.heap.size+1:=aA;rw[hsz]at d4 d5;clear ra rb ra' hsz;have b1:=b0.alloc b0.size (.cells #[.int .i64 (t.k:Int),.int .i64 (t.n:Int),.int .i64 (t.i:Int),.int .i64 (t.c:Int),OT,OU,DX] 41);obtain⟨bn,cn,en⟩:=hN.len;obtain⟨bn',cn',en'⟩:=hN'.len;rw[xx]at en en';subst en en';have gN:=hN.below b1;have gN':=hN'.below b1;have gS:=hS.below b1;have gS':=IJ.below b1;clear hN hN' hS IJ;go_enter Tryz.func35,Tryz.ntmps35;have nt:∀{a b:Nat},((a:Int) != (b:Int))=true->((a:Int)==(b:Int))=false:=λh=>by simpa[bne]using h
 have nf:∀{a b:Nat},((a:Int) != (b:Int))=false->((a:Int)==(b:Int))=true:=λh=>by simpa[bne]using h
 rcases h1:((s.k:Int) != (t.k:Int))with _|_
 rotate_left
 .have q1:=nt h1;clear nt nf;go_wp2;go_ret;exact⟨by rw[D7,q1];rfl,b1⟩
 rcases h2:((s.n:Int) != (t.n:Int))with _|_
 rotate_left
 .have q1:=nt h2;exact ayC
 rcases h3:((s.c:Int) != (t.c:Int))with _|_
 rotate_left
 .have q1:=nt h3;exact ayC
 rcases h4:((s.names.length:Int) != (t.names.length:Int))with _|_
 rotate_left
 .clear nt nf;go_wp2;go_ret;exact⟨by rw[aeZ (.inl λe=>by rw[e]at h4;simp at h4)];rfl,b1⟩
 have hlen:s.names.length=t.names.length:=by have:=eq_of_beq (nf h4);omega
 obtain⟨bs,cs,es⟩:=gS.len;obtain⟨bs',cs',rF⟩:=gS'.len;have hsl:(uH s.sizes).length=s.names.length:=by rw[hsD.out];simp[uH]
 have aqy:(uH t.sizes).length=s.names.length:=by rw[hlen,htC.out];simp[uH]
 rw[hsl]at es;rw[aqy]at rF;subst es rF;have anH:=hlen.symm;simp only[anH]at a4 a5 d4 d5 gN gN' gS gS' b1⊢;clear anH;clear hsl aqy;generalize hL:s.names.length=L at*;have hlE:Hid (s.names.length=L):=hL;have hnB:Hid (L=t.names.length):=hlen;have hzA:Hid (L=s.sizes.length):=hsD.out;clear hL h4 hlen hsD;go_wp2;generalize((w.alloc (.cells #[.int .i64 (s.k:Int),.int .i64 (s.n:Int),.int .i64 (s.i:Int),.int .i64 (s.c:Int),.slice bn L cn,.slice bs L cs,vC] 41)).alloc (.cells #[.int .i64 (t.k:Int),.int .i64 (t.n:Int),.int .i64 (t.i:Int),.int .i64 (t.c:Int),.slice bn' L cn',.slice bs' L cs',DX] 41))=W0 at*
 go_loopw [5] (λvi wr=>∃j:Nat,j<=L/\vi=.int .i64 (j:Int)/\(∃m,wr=W0.drewN m)/\∀q,q<j->s.names[q]?=t.names[q]?/\s.sizes[q]?=t.sizes[q]?) (λvi _=>L-(intOf vi).toNat)
 case atStart=>exact⟨0,ag,rfl,⟨0,rfl⟩,λq hq=>absurd hq ag⟩
 case round=>
  obtain⟨j,hj,rfl,hw,I_⟩:=hrel;have up:∀{p:Addr}{u:ai},W0.cell? p=some u->wr.cell? p=some u:=λ{p u} h=>by obtain⟨m,rfl⟩:=hw;exact h
  have e4:=up a4;have e5:=up a5;have f4:=up d4;have f5:=up d5;have A_:Below w.heap.size w wr:=by obtain⟨m,rfl⟩:=hw;exact below_drewN b1 m
  by_cases qB:j<L
  .have xZ:(j:Int)<(L:Int):=ag;have hjs:j<s.names.length:=by rw[hlE.out];exact qB
   obtain⟨g1,o1,rfl,c1⟩:=gN.get (Aq (l:=s.names) (j:=j) hjs);obtain⟨g2,o2,rfl,c2⟩:=gN'.get (Aq (l:=t.names) (j:=j) (by rw[<-hnB.out];exact qB));have hjz:j<s.sizes.length:=by rw[<-hzA.out];exact qB
   have hjt:j<t.names.length:=by rw[<-hnB.out];exact qB
   have hjy:j<t.sizes.length:=by rw[<-htC.out];exact hjt
   obtain⟨g3,o3,rfl,c3⟩:=gS.get (Dx (l:=s.sizes) (j:=j) hjz);obtain⟨g4,o4,rfl,c4⟩:=gS'.get (Dx (l:=t.sizes) (j:=j) hjy);replace c1:=up c1;replace c2:=up c2;replace c3:=up c3;replace c4:=up c4
   have nx:s.names.getD j []=t.names.getD j []->s.sizes.getD j 0=t.sizes.getD j 0->∀q,q<j+1->s.names[q]?=t.names[q]?/\s.sizes[q]?=t.sizes[q]?:=λn1 n2 q hq=>by
    by_cases et:q=j
    .subst et;simp only[bG,bQ hjs,bQ hjt,bQ hjz,bQ hjy,bf]at n1 n2⊢;rw[n1,n2];exact⟨rfl,rfl⟩
    .exact I_ q ag
   have no:s.names.getD j []≠t.names.getD j []\/s.sizes.getD j 0≠t.sizes.getD j 0->D7 s t=false:=λh=>aeZ (h.imp (λh e=>h iV) (λh e=>h iV))
   clear hjs hjz hjt hjy a4 a5 d4 d5;generalize s.names.getD j []=n1 at*;generalize t.names.getD j []=n2 at*;generalize s.sizes.getD j 0=z1 at*;generalize t.sizes.getD j 0=z2 at*;by_cases e1:n1=n2
   .subst e1;by_cases e2:z1=z2
    .subst e2;have nx':=nx rfl rfl;clear nx no
     go_wp2_with fail
     go_region;go_wp2
     go_roundw
     case rel=>exact⟨j+1,ag,aV,BN hw,nx'⟩
     case measure=>simp[intOf];omega
    .have hne:((z1:Int)==(z2:Int))=false:=lM.2 λx=>e2 ag
     have hd:=no (.inr e2);clear nx no
     go_wp2_with fail
     go_region;exact ay2
   .have hne:(n1==n2)=false:=lM.2 e1;have hd:=no (.inl e1);clear nx no
    go_wp2_with fail
    go_region;exact ay2
  .obtain rfl:j=L:=ag;have E5:¬((j:Int)<(j:Int)):=ag
   have hd:D7 s t=true:=by
    have e1:s.names=t.names:=Qh (hlE.out.trans hnB.out) λq hq=>(I_ q (by rw[<-hlE.out];exact hq)).1
    have e2:s.sizes=t.sizes:=Qh (hzA.out.symm.trans (hnB.out.trans htC.out)) λq hq=>(I_ q (by rw[hzA.out];exact hq)).2
    rw[D7,nf h1,nf h2,nf h3];simp[e1,e2]
   go_wp2;go_ret;exact⟨by first|rfl|(rw[hd];rfl),A_⟩
def UO(n:Nat)(sh:Nat->vZ):Prop:=∀i,i<n->D7 (sh i) (sh 0)=true
def aiR(n:Nat)(sh:Nat->vZ):Prop:=∃i j,j<i/\i<n/\(sh i).i=(sh j).i
def ac_(n:Nat)(sh:Nat->vZ)(e:Nat):Prop:=(e=10/\¬UO n sh)\/(e=11/\UO n sh/\aiR n sh)\/(e=12/\UO n sh/\¬aiR n sh/\(n=0\/n<(sh 0).k))\/(e=0/\UO n sh/\¬aiR n sh/\0<n/\(sh 0).k<=n)
theorem Zb(n cap:Nat)(bo:aW)(sh:Nat->vZ)(vN vS vC:Nat->ai)(w:ah)(hn:n<=1048576)(H:Tq w bo n sh vN vS vC)(VS:∀i,i<n->(sh i).names.length=(sh i).sizes.length):
  Calls Tryz.prog 13 #[.slice bo n cap] w λr w'=>Below w.heap.size w w'/\∃e:Nat,r=.returned (.int .i64 (e:Int))/\ac_ n sh e:=by
 go_enter Tryz.func13,Tryz.ntmps13;go_wp2
 go_loopw [3] (λvi wr=>∃j:Nat,j<=n/\vi=.int .i64 (j:Int)/\Below w.heap.size w wr/\UO j sh) (λvi _=>n-(intOf vi).toNat)
 case atStart=>exact⟨0,ag,rfl,aO _ _,λi hi=>absurd hi ag⟩
 case round=>
  obtain⟨j,hj,rfl,hb,xg⟩:=hrel;have Hr:=H.below hb (ay _);by_cases qB:j<n
  .have xZ:(j:Int)<(n:Int):=ag;have h0n:(0:Int)<(n:Int):=ag;obtain⟨b,o,rfl,Jf,hcell⟩:=Hr.cells ag;have rj:=hcell j qB;have r0:=hcell 0 ag;have tN:=wH _ (Hr.nm j qB).1.one;have tS:=wH _ (Hr.sz j qB).1.one;have tC:=wH _ (Hr.cl j qB).one;unfold Me at rj r0;obtain⟨p0,p1,p2,p3,p4,p5,p6⟩:=Eg rj;obtain⟨q0,q1,q2,q3,q4,q5,q6⟩:=Eg r0;simp only[fO,fF]at q0 q1 q2 q3 q4 q5 q6;have Hd:=Hr.below (aO wr.heap.size wr).drew (ay _);have k1:=ahA (sh j) (sh 0) (vN j) (vS j) (vC j) (vN 0) (vS 0) (vC 0) _ (Hd.nm j qB).1 (Hd.sz j qB).1 (Hd.nm 0 ag).1 (Hd.sz 0 ag).1 (VS j qB) (VS 0 ag) (Hd.nm j qB).2;simp only[Me]at k1;clear Hd rj r0 hcell
   go_wp2_with fail
   rcases ho:D7 (sh j) (sh 0)with _|_
   .rw[ho]at k1
    go_region_with (first|(go_at_call 35;(with_reducible refine k1.mono ?_);rintro r w2 ⟨rfl,rq⟩))
    all_goals
     go_wp2;go_ret;exact⟨hb.drew.trans (rq.mono hb.size),10,rfl,.inl ⟨rfl,λhA=>aw0⟩⟩
   .rw[ho]at k1
    go_region_with (first|(go_at_call 35;(with_reducible refine k1.mono ?_);rintro r w2 ⟨rfl,rq⟩))
    all_goals
     go_wp2
     go_roundw
     case rel=>exact⟨j+1,ag,aV,hb.drew.trans (rq.mono hb.size),λi hi=>by
      by_cases e:i=j
      .rw[e];exact ho
      .exact xg i ag⟩
     case measure=>simp[intOf];omega
  .obtain rfl:j=n:=ag;have E5:¬((j:Int)<(j:Int)):=ag;go_wp2
   go_loopw [5] (λvt w2=>∃x:Nat,x<=j/\vt=.int .i64 (x:Int)/\Below w.heap.size w w2/\∀i y,y<i->i<x->(sh i).i≠(sh y).i) (λvt _=>j-(intOf vt).toNat)
   case atStart=>exact⟨0,ag,rfl,hb,λi y _ h=>absurd h ag⟩
   case round=>
    clear hb Hr;obtain⟨x,hx,rfl,hb,akS⟩:=hrel;by_cases qB:x<j
    .have atG:(x:Int)<(j:Int):=ag;go_wp2
     go_loopw [6] (λvt w2=>∃y:Nat,y<=x/\vt=.int .i64 (y:Int)/\Below w.heap.size w w2/\∀q,q<y->(sh x).i≠(sh q).i) (λvt _=>x-(intOf vt).toNat)
     case atStart=>exact⟨0,ag,rfl,hb,λq h=>absurd h ag⟩
     case round=>
      clear hb;obtain⟨y,hy,rfl,hb,hne⟩:=hrel;have Hr:=H.below hb (ay _);by_cases hyx:y<x
      .have atH:(y:Int)<(x:Int):=ag;have hyj:(y:Int)<(j:Int):=ag;obtain⟨b,o,rfl,Jf,hcell⟩:=Hr.cells ag;have c1:=hcell x qB 2 _ rfl;have c0:=hcell y ag 2 _ rfl;clear hcell;rcases he:(((sh x).i:Int)==((sh y).i:Int))with _|_
       .go_wp2_with fail
        go_region;go_wp2
        go_roundw
        case rel=>exact⟨y+1,ag,aV,hb.drew,λq hq=>by
         by_cases e:q=y
         .rw[e];intro h;rw[h]at he;simp at he
         .exact hne q ag⟩
        case measure=>simp[intOf];omega
       .go_wp2_with fail
        go_region;go_wp2;go_ret;exact⟨hb.drew,11,rfl,.inr (.inl ⟨rfl,xg,x,y,hyx,qB,by have:=eq_of_beq he;omega⟩)⟩
      .obtain rfl:y=x:=ag;have aat:¬((y:Int)<(y:Int)):=ag;go_wp2
       go_roundw
       case rel=>exact⟨y+1,ag,aV,hb,λi q h1 h2=>by
        by_cases e:i=y
        .rw[e];exact hne q ag
        .exact akS i q h1 ag⟩
       case measure=>simp[intOf];omega
    .obtain rfl:x=j:=ag;have aat:¬((x:Int)<(x:Int)):=ag;have Hr:=H.below hb (ay _);have hnd:¬aiR x sh:=λ⟨i,q,h1,h2,e⟩=>akS i q h1 h2 e;rcases gy x with h0|h0
     .subst h0;go_wp2;go_ret;exact⟨hb,12,rfl,.inr (.inr (.inl ⟨rfl,xg,hnd,.inl rfl⟩))⟩
     .have he:((x:Int)==0)=false:=aJ;have h0n:(0:Int)<(x:Int):=ag;obtain⟨b,o,rfl,Jf,hcell⟩:=Hr.cells h0;have c0:=hcell 0 h0 0 _ rfl;simp only[fO,fF]at c0;clear hcell;by_cases hk:x<(sh 0).k
      .have hk':(x:Int)<((sh 0).k:Int):=ag;go_wp2;go_ret;exact⟨hb,12,rfl,.inr (.inr (.inl ⟨rfl,xg,hnd,.inr hk⟩))⟩
      .have hk':¬((x:Int)<((sh 0).k:Int)):=ag;go_wp2;go_ret;exact⟨hb,0,rfl,.inr (.inr (.inr ⟨rfl,xg,hnd,h0,ag⟩))⟩
end Go.Proofs.Y
namespace Go.Proofs.Y
namespace F
structure St where
 kind:Nat
 a:Nat
 b:Nat
 z:F
def ap(s:St)(v:Nat->F)(i:Nat):F:=
 if s.kind=0 then(if i=s.a then v s.b else if i=s.b then v s.a else v i)
 else if s.kind=1 then(if i=s.a then mu (v s.a) s.z else v i)
 else(if i=s.a then add (v s.a) (mu s.z (v s.b))else v i)
def run:List St->(Nat->F)->Nat->F
 |[],v=>v
 |s::l,v=>run l (ap s v)
theorem UQ(s:St):∀(l:List St)(v:Nat->F),run (l++[s]) v=ap s (run l v)
 |[],_=>rfl
 |t::l,v=>by rw[df,run,UQ s l,run]
def Ob(s:St)(m:Nat->Nat->F)(i j:Nat):F:=ap s (λr=>m r j) i
structure Xc(k:Nat)(s:St):Prop where
 a:s.a<k
 b:s.b<k
 z:s.kind=1->s.z≠0
 ne:s.kind≠0->s.kind≠1->s.a≠s.b
theorem aoD(k:Nat)(s:St)(m:Nat->Nat->F)(x:Nat->F)(i:Nat):dot k (Ob s m i) x=ap s (λr=>dot k (m r) x) i:=by
 unfold Ob ap;split
 .split
  .rfl
  .split<;>rfl
 .split
  .split
   .have:(λj=>mu (m s.a j) s.z)=scaled s.z (m s.a):=rfl;rw[this,Ep,wI]
   .rfl
  .split
   .have:(λj=>add (m s.a j) (mu s.z (m s.b j)))=added s.z (m s.a) (m s.b):=by
     funext j
     rw[wI];rfl
    rw[this,Qi]
   .rfl
theorem aoE{k:Nat}{s:St}(h:Xc k s)(u v:Nat->F):(∀i,i<k->u i=v i)↔∀i,i<k->ap s u i=ap s v i:=by
 constructor
 .intro e i hi;unfold ap;rw[e i hi,e s.a h.a,e s.b h.b]
 .intro e i hi;have ea:=e s.a h.a;have eb:=e s.b h.b;have ei:=e i hi;unfold ap at ea eb ei;by_cases h0:s.kind=0
  .simp only[ax h0]at ea eb ei;simp only[aY]at ea;by_cases hia:i=s.a
   .subst hia;by_cases hba:s.b=s.a
    .rw[<-hba];exact ea
    .simp only[au hba,aY]at eb;exact eb
   .by_cases hib:i=s.b
    .rw[hib];exact ea
    .simp only[au hia,au hib]at ei;exact ei
  .simp only[au h0]at ea eb ei;by_cases h1:s.kind=1
   .simp only[ax h1]at ea eb ei;simp only[aY]at ea;by_cases hia:i=s.a
    .rw[hia];rw[wI,wI (v s.a)]at ea;exact Gz (h.z h1) ea
    .simp only[au hia]at ei;exact ei
   .simp only[au h1]at ea eb ei;have V7:=h.ne h0 h1;have hb:u s.b=v s.b:=by simp only[au (dE V7)]at eb;exact eb
    by_cases hia:i=s.a
    .rw[hia];simp only[aY]at ea;rw[hb]at ea;have:=bI (λx=>add x (mu s.z (v s.b))) ea;simp only[add_assoc,yG,add_zero]at this;exact this
    .simp only[au hia]at ei;exact ei
structure Rs(k:Nat)(M:Nat->Nat->F)(m:Nat->Nat->F)(l:List St):Prop where
 same:∀x y:Nat->F,(∀i,i<k->dot k (M i) x=y i)↔∀i,i<k->dot k (m i) x=run l y i
 fine:∀s∈l,Xc k s
theorem aiS(k:Nat)(M:Nat->Nat->F):Rs k M M []:=⟨λ_ _=>Iff.rfl,λ_ h=>gp⟩
theorem Rs.step{k:Nat}{M m:Nat->Nat->F}{l:List St}(h:Rs k M m l){s:St}(hs:Xc k s):Rs k M (Ob s m) (l++[s]):=by
 refine⟨λx y=>(h.same x y).trans ?_,λt ht=>?_⟩
 .rw[UQ];refine(aoE hs (λr=>dot k (m r) x) (run l y)).trans ?_;exact oz λi=>oz λhi=>by rw[aoD]
 .rcases kK.1 ht with h1|h1
  .exact h.fine t h1
  .simp at h1;subst h1;exact hs
def Inj(k:Nat)(M:Nat->Nat->F):Prop:=∀x,(∀i,i<k->dot k (M i) x=0)->∀i,i<k->x i=0
theorem alV(s:St)(i:Nat):ap s (λ_=>0) i=0:=by
 unfold ap;split
 .split<;>(try split)<;>rfl
 .split
  .split
   .exact yY _
   .rfl
  .split
   .rw[zK,add_zero]
   .rfl
theorem aa2:∀(l:List St)(i:Nat),run l (λ_=>0) i=0
 |[],_=>rfl
 |s::l,i=>by rw[run,show ap s (λ_=>0)=λ_=>0 from funext λi=>alV s i];exact aa2 l i
def NF(k c:Nat)(m:Nat->Nat->F):Prop:=∀i s,i<k->s<c->m i s=if s=i then 1 else 0
theorem Rs.akT{k c:Nat}{M m:Nat->Nat->F}{l:List St}(h:Rs k M m l)(hi:Inj k M)(hu:NF k c m)(hc:c<k):∃r,c<=r/\r<k/\m r c≠0:=by
 refine iw λPK=>?_
 have hz:∀r,c<=r->r<k->m r c=0:=λr h1 h2=>iw λe=>PK ⟨r,h1,h2,e⟩
 let x:Nat->F:=λj=>if j=c then 1 else if j<c then m j c else 0
 have hx:∀i,i<k->dot k (m i) x=0:=by
  intro i Jd
  have split:dot k (m i) x=add (sum (List.range k) λj=>if j=c then m i c else 0) (sum (List.range k) λj=>if j<c then mu (m i j) (m j c)else 0):=by
   rw[<-sum_add];refine Bv λj hj=>?_
   by_cases e:j=c
   .subst e;simp only[x,aY,UR,au (Nat.lt_irrefl j),add_zero]
   .by_cases e2:j<c
    .simp only[x,au e,ax e2,zero_add]
    .simp only[x,au e,au e2,zK,add_zero]
  have s1:(sum (List.range k) λj=>if j=c then m i c else 0)=m i c:=by rw[Bz jK (t:=c) au5 (λj _ hj=>au hj)];exact ax rfl
  have s2:(sum (List.range k) λj=>if j<c then mu (m i j) (m j c)else 0)=m i c:=by
   by_cases YD:i<c
   .rw[Bz jK (t:=i) (by simpa using Jd) (λj hj hne=>?_)]
    .rw[ax YD,hu i i Jd YD,ax rfl,zV]
    .split
     .rename_i h2;rw[hu i j Jd h2,au hne,yY]
     .rfl
   .rw[hz i ag Jd];refine UT _ λj hj=>?_
    split
    .rename_i h2;rw[hu i j Jd h2,au ag,yY]
    .rfl
  rw[split,s1,s2,yG]
 have h0:=(h.same x (λ_=>0)).2 λi Jd=>by rw[hx i Jd,aa2]
 have:=hi x h0 c hc;simp only[x,aY]at this;exact adf this
structure El(k:Nat)(M:Nat->Nat->F)(c i:Nat)(m:Nat->Nat->F)(l:List St):Prop where
 rs:Rs k M m l
 left:NF k c m
 one:m c c=1
 cl:∀r,r<i->r<k->r≠c->m r c=0
theorem aiT{k c r:Nat}{M m:Nat->Nat->F}{l:List St}(h:Rs k M m l)(hu:NF k c m)(hc:c<k)(hcr:c<=r)(hr:r<k)(hne:m r c≠0):
  El k M c 0 (Ob ⟨1,c,c,iv (m r c)⟩ (Ob ⟨0,c,r,0⟩ m)) (l++[⟨0,c,r,0⟩]++[⟨1,c,c,iv (m r c)⟩]):=by
 have f1:Xc k ⟨0,c,r,0⟩:=⟨hc,hr,λe=>(by cases e),λe=>absurd rfl e⟩;have f2:Xc k ⟨1,c,c,iv (m r c)⟩:=⟨hc,hc,λ_=>anp hne,λ_ e=>absurd rfl e⟩;refine⟨(h.step f1).step f2,λi s hi hs=>?_,?_,λr hr=>absurd hr ag⟩
 .have hcs:m c s=0:=by rw[hu c s hc hs,au ag]
  have VT:m r s=0:=by rw[hu r s hr hs,au ag]
  by_cases YD:i=c
  .subst YD;simp[Ob,ap,VT,yY,show s≠i by omega]
  .by_cases hir:i=r
   .subst hir;simp[Ob,ap,YD,hcs,show s≠i by omega]
   .simp[Ob,ap,YD,hir,hu i s hi hs]
 .simp[Ob,ap,IU hne]
theorem El.skip{k c i:Nat}{M m:Nat->Nat->F}{l:List St}(h:El k M c i m l)(hs:i=c\/m i c=0):El k M c (i+1) m l:=
 ⟨h.rs,h.left,h.one,λr h1 h2 h3=>by
  by_cases e:r=i
  .subst e;exact hs.resolve_left h3
  .exact h.cl r ag h2 h3⟩
theorem El.add{k c i:Nat}{M m:Nat->Nat->F}{l:List St}(h:El k M c i m l)(hc:c<k)(hi:i<k)(YD:i≠c):El k M c (i+1) (Ob ⟨2,i,c,m i c⟩ m) (l++[⟨2,i,c,m i c⟩]):=by
 have f:Xc k ⟨2,i,c,m i c⟩:=⟨hi,hc,λe=>(by cases e),λ_ _=>YD⟩;refine⟨h.rs.step f,λr s hr hs=>?_,?_,λr h1 h2 h3=>?_⟩
 .have hcs:m c s=0:=by rw[h.left c s hc hs,au ag]
  by_cases e:r=i
  .subst e;simp[Ob,ap,hcs,zK,add_zero,h.left r s hr hs]
  .simp[Ob,ap,e,h.left r s hr hs]
 .simp[Ob,ap,dE YD,h.one]
 .by_cases e:r=i
  .subst e;simp[Ob,ap,h.one,UR,yG]
  .simp[Ob,ap,e,h.cl r ag h2 h3]
theorem El.done{k c:Nat}{M m:Nat->Nat->F}{l:List St}(h:El k M c k m l)(_:c<k):NF k (c+1) m:=by
 intro i s hi hs;by_cases e:s=c
 .subst e;by_cases e2:i=s
  .subst e2;rw[ax rfl,h.one]
  .rw[au (dE e2),h.cl i hi hi e2]
 .exact h.left i s hi ag
theorem Rs.told{k:Nat}{M m:Nat->Nat->F}{l:List St}(h:Rs k M m l)(hu:NF k k m){x y:Nat->F}(hx:∀i,i<k->dot k (M i) x=y i):∀i,i<k->run l y i=x i:=by intro i hi;rw[<-(h.same x y).1 hx i hi];exact yw hi λj hj=>by rw[hu i j hi hj]
end F
end Go.Proofs.Y
namespace Go.Proofs.Y
open Go.RowKit Go.Deep
theorem Tryz.ae0:(Tryz.prog.info? 94).map (λi=>(i.zero,i.size,i.bytes))=some (some (.agg #[.int .i64 0,.int .i64 0,.int .i64 0,.int .u8 0]),4,32):=ak
def IQ(k:Nat)(r:Nat->F):aK:=(List.range k).map λj=>.int .u8 (((r j).val:Nat):Int)
def hdL(k:Nat)(bl cp:Nat->Nat):aK:=(List.range k).map λi=>.slice (some ⟨bl i,0,none⟩) k (cp i)
def stC(s:F.St):aK:=[.int .i64 ((s.kind:Nat):Int),.int .i64 ((s.a:Nat):Int),.int .i64 ((s.b:Nat):Int),.int .u8 ((s.z.val:Nat):Int)]
def stL(l:List F.St):aK:=l.flatMap stC
theorem aiU(l:List F.St)(s:F.St):stL (l++[s])=stL l++stC s:=by simp[stL]
theorem Fq{k:Nat}(r:Nat->F){j:Nat}(h:j<k):(IQ k r)[j]?=some (.int .u8 (((r j).val:Nat):Int)):=by simp[IQ,h]
theorem TD{k:Nat}(bl cp:Nat->Nat){i:Nat}(h:i<k):(hdL k bl cp)[i]?=some (.slice (some ⟨bl i,0,none⟩) k (cp i)):=by simp[hdL,h]
theorem OV{k:Nat}(r:Nat->F)(j:Nat)(x:F):(IQ k r).set j (.int .u8 ((x.val:Nat):Int))=IQ k (λi=>if i=j then x else r i):=by
 apply jk;intro i;rw[nJ];by_cases h:i<k
 .by_cases e:j=i
  .subst e;simp[IQ,h]
  .rw[au e,Fq _ h,Fq _ h,au (λx=>e x.symm)]
 .have h1:∀r:Nat->F,(IQ k r)[i]?=none:=λr=>by simp[IQ];omega
  rw[h1,h1];by_cases e:j=i
  .subst e;simp[IQ];omega
  .rw[au e]
theorem Ze{k:Nat}(bl cp:Nat->Nat)(j b c:Nat):(hdL k bl cp).set j (.slice (some ⟨b,0,none⟩) k c)=hdL k (λi=>if i=j then b else bl i) (λi=>if i=j then c else cp i):=by
 apply jk;intro i;rw[nJ];by_cases h:i<k
 .by_cases e:j=i
  .subst e;simp[hdL,h]
  .rw[au e,TD _ _ h,TD _ _ h,au (λx=>e x.symm),au (λx=>e x.symm)]
 .have h1:∀b c:Nat->Nat,(hdL k b c)[i]?=none:=λb c=>by simp[hdL];omega
  rw[h1,h1];by_cases e:j=i
  .subst e;simp[hdL];omega
  .rw[au e]
structure SS(B k g hc:Nat)(bl cp:Nat->Nat)(m:Nat->Nat->F)(l:List F.St)(vl:ai)(w0 w:ah):Prop where
 head:w.ownsRow B 24 1 (.slice (some ⟨g,0,none⟩) k hc) k (hdL k bl cp)
 rows:∀i,i<k->w.ownsRow B 5 1 (.slice (some ⟨bl i,0,none⟩) k (cp i)) k (IQ k (m i))
 inj:∀i j,i<k->j<k->i≠j->bl i≠bl j
 st:w.ownsRow B 94 4 vl l.length (stL l)
 xG:Below B w0 w
section
variable {B k g hc:Nat}{bl cp:Nat->Nat}{m:Nat->Nat->F}{l:List F.St}{vl:ai}{w0 w:ah}
theorem SS.h(h:SS B k g hc bl cp m l vl w0 w){i:Nat}(hi:i<k):w.cell? ⟨g,i,none⟩=some (.slice (some ⟨bl i,0,none⟩) k (cp i)):=(h.head.cellAt i ag).trans (TD _ _ hi)
theorem SS.r(h:SS B k g hc bl cp m l vl w0 w){i j:Nat}(hi:i<k)(hj:j<k):w.cell? ⟨bl i,j,none⟩=some (.int .u8 (((m i j).val:Nat):Int)):=((h.rows i hi).cellAt j ag).trans (Fq _ hj)
theorem SS.fr(h:SS B k g hc bl cp m l vl w0 w){i:Nat}(hi:i<k)(j:Nat):w.frozen? ⟨bl i,j,none⟩=false:=(h.rows i hi).frozenAt j
theorem SS.fh(h:SS B k g hc bl cp m l vl w0 w)(j:Nat):w.frozen? ⟨g,j,none⟩=false:=h.head.frozenAt j
theorem SS.same{w':ah}(h:SS B k g hc bl cp m l vl w0 w)(e:w'.heap=w.heap)(e1:w'.os=w.os)(e2:w'.tape=w.tape)(e3:w'.output=w.output):SS B k g hc bl cp m l vl w0 w':=by
 have key:∀{v:ai}{t s n:Nat}{xs:aK},w.ownsRow B t s v n xs->w'.ownsRow B t s v n xs:=λhx=>qH hx (λg _=>iV)
 exact⟨key h.head,λi hi=>key (h.rows i hi),h.inj,key h.st,⟨e1.trans h.xG.os,e2.trans h.xG.tape,e3.trans h.xG.output,by rw[e];exact h.xG.size,λb hb=>by rw[e];exact h.xG.block b hb⟩⟩
theorem SS.congr{m':Nat->Nat->F}(h:SS B k g hc bl cp m l vl w0 w)(e:∀i j,i<k->j<k->m i j=m' i j):SS B k g hc bl cp m' l vl w0 w:=
 ⟨h.head,λi hi=>by
  have:IQ k (m' i)=IQ k (m i):=g_ λj hj=>by rw[e i j hi iC]
  rw[this];exact h.rows i hi,h.inj,h.st,h.xG⟩
theorem SS.push{wa w1:ah}{v':ai}{s:F.St}(h:SS B k g hc bl cp m l vl w0 w)(ha:Below w.heap.size w wa)(hg:wa.grownBy w1 vl.ownBlock)(ho:w1.ownsRow B 94 4 v' (l.length+1) (stL l++stC s))(hB:B<=w.heap.size):SS B k g hc bl cp m (l++[s]) v' w0 w1:=by
 have key:∀{v:ai}{t s n:Nat}{xs:aK},t≠94->w.ownsRow B t s v n xs->w1.ownsRow B t s v n xs:=λht hx=>qH hx (λb hb=>by have qB:=(hx.lt b hb).2;rw[hg.block b (by have:=ha.size;omega) (λe=>x8 hx h.st ht hb e.symm)];exact ha.block b qB)
 refine⟨key aB h.head,λi hi=>key aB (h.rows i hi),h.inj,by rw[aiU,bM];exact ho,?_⟩;exact(h.xG.trans (ha.mono hB)).grown hg (by have:=ha.size;omega) (λb hb=>(h.st.lt b hb).1)
theorem SS.set(h:SS B k g hc bl cp m l vl w0 w){i j:Nat}(hi:i<k)(x:F):SS B k g hc bl cp (λi' j'=>if i'=i/\j'=j then x else m i' j') l vl w0 (w.setCell ⟨bl i,j,none⟩ (.int .u8 ((x.val:Nat):Int))):=by
 have hb:(Value.slice (some ⟨bl i,0,none⟩) k (cp i)).ownBlock=some (bl i):=rfl;have key:∀{v:ai}{t s n:Nat}{xs:aK},v.ownBlock≠some (bl i)->w.ownsRow B t s v n xs->(w.setCell ⟨bl i,j,none⟩ (.int .u8 ((x.val:Nat):Int))).ownsRow B t s v n xs:=λhne hx=>qH hx (λb A8=>dA _ _ _ _ (λe:b=bl i=>hne (e▸A8)))
 refine⟨key (λe=>x8 h.head (h.rows i hi) aB rfl (by rw[hb];exact e▸rfl)) h.head,λi' IC=>?_,h.inj,key (λe=>x8 (h.rows i hi) h.st aB hb e) h.st,h.xG.setCell ((h.rows i hi).lt _ hb).1 _⟩;by_cases e:i'=i
 .subst e;have:=((h.rows i' hi).stored j (.int .u8 ((x.val:Nat):Int))).1;rw[OV]at this;have e2:IQ k (λj'=>if i'=i'/\j'=j then x else m i' j')=IQ k (λj'=>if j'=j then x else m i' j'):=g_ λj' _=>aA
  rw[e2];exact this
 .have e2:IQ k (λj'=>if i'=i/\j'=j then x else m i' j')=IQ k (m i'):=g_ λj' _=>by simp only[au (λx:i'=i/\j'=j=>e x.1)]
  rw[e2];exact key (λx=>h.inj i' i IC hi e (gu x)) (h.rows i' IC)
def agj(a b:Nat)(f:Nat->Nat)(i:Nat):Nat:=if i=b then f a else if i=a then f b else f i
theorem SS.swap(h:SS B k g hc bl cp m l vl w0 w){a b:Nat}(ha:a<k)(hb:b<k):
  SS B k g hc (agj a b bl) (agj a b cp) (F.Ob ⟨0,a,b,0⟩ m) l vl w0 ((w.setCell ⟨g,a,none⟩ (.slice (some ⟨bl b,0,none⟩) k (cp b))).setCell ⟨g,b,none⟩ (.slice (some ⟨bl a,0,none⟩) k (cp a))):=by
 have hg:(Value.slice (some ⟨g,0,none⟩) k hc).ownBlock=some g:=rfl
 have key:∀{v:ai}{t s n:Nat}{xs:aK},t≠24->w.ownsRow B t s v n xs->((w.setCell ⟨g,a,none⟩ (.slice (some ⟨bl b,0,none⟩) k (cp b))).setCell ⟨g,b,none⟩ (.slice (some ⟨bl a,0,none⟩) k (cp a))).ownsRow B t s v n xs:=λht hx=>qH hx (λx hx'=>by
  have hne:x≠g:=λe=>x8 hx h.head ht hx' (by rw[hg,e])
  rw[dA _ _ _ _ hne,dA _ _ _ _ hne])
 have h1:=(h.head.stored a (.slice (some ⟨bl b,0,none⟩) k (cp b))).1;have h2:=(h1.stored b (.slice (some ⟨bl a,0,none⟩) k (cp a))).1;rw[Ze,Ze]at h2;have NV:=(h.head.lt _ hg).1;refine⟨?_,λi hi=>?_,λi j hi hj PV=>?_,key aB h.st,(h.xG.setCell NV _).setCell NV _⟩
 .exact h2
 .unfold agj
  have hm:∀j,F.Ob ⟨0,a,b,0⟩ m i j=if i=b then m a j else if i=a then m b j else m i j:=λj=>by
   unfold F.Ob F.ap;rw[ax rfl];by_cases e1:i=a
   .by_cases e2:i=b
    .subst e1 e2;simp
    .simp[e1];intro e3;rw[e3]
   .by_cases e2:i=b
    .simp[e2,show b≠a from λe=>e1 (e2.trans e)]
    .simp[e1,e2]
  have e2:IQ k (F.Ob ⟨0,a,b,0⟩ m i)=IQ k (λj=>if i=b then m a j else if i=a then m b j else m i j):=g_ λj _=>by rw[hm]
  rw[e2];split
  .exact key aB (h.rows a ha)
  .split
   .exact key aB (h.rows b hb)
   .exact key aB (h.rows i hi)
 .unfold agj;intro e;have:=h.inj;by_cases i1:i=b
  .by_cases j1:j=b
   .omega
   .rw[ax i1,au j1]at e;by_cases j2:j=a
    .rw[ax j2]at e;by_cases V7:a=b
     .omega
     .exact this a b ha hb V7 e
    .rw[au j2]at e;exact this a j ha hj (dE j2) e
  .rw[au i1]at e;by_cases i2:i=a
   .rw[ax i2]at e;by_cases j1:j=b
    .rw[ax j1]at e;by_cases V7:a=b
     .omega
     .exact this b a hb ha (dE V7) e
    .rw[au j1,au ag]at e;exact this b j hb hj (dE j1) e
   .rw[au i2]at e;by_cases j1:j=b
    .rw[ax j1]at e;exact this i a hi ha i2 e
    .rw[au j1]at e;by_cases j2:j=a
     .rw[ax j2]at e;exact this i b hi hb i1 e
     .rw[au j2]at e;exact this i j hi hj PV e
end
def agk(B k:Nat)(M:Nat->Nat->F)(w:ah)(e:Ending)(w':ah):Prop:=∃v m l,e=.returned v/\w'.ownsRow B 94 4 v l.length (stL l)/\F.Rs k M m l/\F.NF k k m/\Below B w w'/\l.length<=k*(k+2)
def arW(B k g hc:Nat)(M:Nat->Nat->F)(w:ah)(vl vc:ai)(wr:ah):Prop:=∃c m l bl cp,c<=k/\vc=.int .i64 ((c:Nat):Int)/\SS B k g hc bl cp m l vl w wr/\F.Rs k M m l/\F.NF k c m/\l.length<=c*(k+2)
def aqz(B k g hc:Nat)(bl cp:Nat->Nat)(M:Nat->Nat->F)(c:Nat)(w:ah)(vl vi:ai)(wr:ah):Prop:=∃i m l,i<=k/\vi=.int .i64 ((i:Nat):Int)/\SS B k g hc bl cp m l vl w wr/\F.El k M c i m l/\l.length<=c*(k+2)+2+i
theorem FY(w:ah)(x y z u:ai)(t:aG):∀j v,[x,y,z,u][j]?=some v->(w.alloc (.cells #[x,y,z,u] t)).cell? ((⟨w.heap.size,0,none⟩:Addr).add j)=some v:=by
 intro j v hj
 match j,hj with
 |0,hj=>simp at hj;subst hj;simp[Addr.add]
 |1,hj=>simp at hj;subst hj;simp[Addr.add]
 |2,hj=>simp at hj;subst hj;simp[Addr.add]
 |3,hj=>simp at hj;subst hj;simp[Addr.add]
theorem Zf(s:F.St):∀u∈stC s,u.oneCell'=true:=by intro u hu;simp only[stC,dK,nG,mX]at hu;rcases hu with rfl|rfl|rfl|rfl<;>rfl
def sc(m:Nat->Nat->F)(c:Nat)(z:F)(j i' j':Nat):F:=if i'=c/\j'<j then F.mu (m i' j') z else m i' j'
def ad(m:Nat->Nat->F)(i c:Nat)(z:F)(j i' j':Nat):F:=if i'=i/\j'<j then F.add (m i' j') (F.mu z (m c j'))else m i' j'
theorem alW(m:Nat->Nat->F)(c:Nat)(z:F)(j:Nat):sc m c z j c j=m c j:=av_
theorem alX(m:Nat->Nat->F)(i c:Nat)(z:F)(j:Nat):ad m i c z j i j=m i j:=au3
theorem arX{i c:Nat}(m:Nat->Nat->F)(h:i≠c)(z:F)(j j':Nat):ad m i c z j c j'=m c j':=au3
theorem alY(m:Nat->Nat->F)(c:Nat)(z:F)(j:Nat){k:Nat}:∀i' j',i'<k->j'<k->(if i'=c/\j'=j then F.mu (m c j) z else sc m c z j i' j')=sc m c z (j+1) i' j':=λi' j' _ _=>by
 unfold sc;by_cases e1:i'=c
 .subst e1;by_cases e2:j'=j
  .subst e2;rw[ax ⟨rfl,rfl⟩,ax ⟨rfl,ag⟩]
  .rw[au (λx=>e2 x.2)];by_cases e3:j'<j
   .rw[ax ⟨rfl,e3⟩,ax ⟨rfl,ag⟩]
   .exact ax0
 .exact axP
theorem aoF(m:Nat->Nat->F)(c:Nat)(z:F)(k:Nat):∀i' j',i'<k->j'<k->sc m c z k i' j'=F.Ob ⟨1,c,c,z⟩ m i' j':=λi' j' _ hj=>by
 unfold sc;by_cases e1:i'=c
 .subst e1;rw[ax ⟨rfl,hj⟩];simp[F.Ob,F.ap]
 .rw[au (λx=>e1 x.1)];simp[F.Ob,F.ap,e1]
theorem alZ(m:Nat->Nat->F)(i c:Nat)(z:F)(j:Nat){k:Nat}:∀i' j',i'<k->j'<k->(if i'=i/\j'=j then F.add (m i j) (F.mu z (m c j))else ad m i c z j i' j')=ad m i c z (j+1) i' j':=λi' j' _ _=>by
 unfold ad;by_cases e1:i'=i
 .subst e1;by_cases e2:j'=j
  .subst e2;rw[ax ⟨rfl,rfl⟩,ax ⟨rfl,ag⟩]
  .rw[au (λx=>e2 x.2)];by_cases e3:j'<j
   .rw[ax ⟨rfl,e3⟩,ax ⟨rfl,ag⟩]
   .exact ax0
 .exact axP
theorem aoG(m:Nat->Nat->F)(i c:Nat)(z:F)(k:Nat):∀i' j',i'<k->j'<k->ad m i c z k i' j'=F.Ob ⟨2,i,c,z⟩ m i' j':=λi' j' _ hj=>by
 unfold ad;by_cases e1:i'=i
 .subst e1;rw[ax ⟨rfl,hj⟩];simp[F.Ob,F.ap]
 .rw[au (λx=>e1 x.1)];simp[F.Ob,F.ap,e1]
theorem H8(a b:F):vK a.val b.val=(F.mu a b).val:=KG a.isLt b.isLt
theorem agl(B k g hc:Nat)(bl cp:Nat->Nat)(M:Nat->Nat->F)(w:ah)(hk:k<=128)(hB:B<=w.heap.size)(h0:SS B k g hc bl cp M [] (.slice none 0 0) w w)(hi:F.Inj k M):
  Calls Tryz.prog 37 #[.slice (some ⟨g,0,none⟩) k hc] w λe w'=>agk B k M w e w':=by
 obtain⟨i0,zo,xY,wW,vV⟩:=cO Tryz.ae0;go_enter Tryz.func37,Tryz.ntmps37;go_wp2
 go_loopw [3,5,6,7,8,9,10,11] (λvl vc _ _ _ _ _ _ wr=>arW B k g hc M w vl vc wr) (λ_ vc _ _ _ _ _ _ _=>k-(intOf vc).toNat)
 case atStart=>exact⟨0,M,[],bl,cp,ag,rfl,h0,F.aiS k M,λ_ _ _ h=>absurd h ag,aA⟩
 case round=>
  clear h0;obtain⟨c,m,l,bl',cp',hck,rfl,hS,hR,hU,hll⟩:=hrel;by_cases qB:c<k
  .have xZ:(c:Int)<(k:Int):=ag;go_wp2
   go_loopw [6] (λvr wq=>∃r:Nat,c<=r/\r<=k/\vr=.int .i64 ((r:Nat):Int)/\(∀i,c<=i->i<r->m i c=0)/\wq=wr) (λi _=>k-(intOf i).toNat)
   case atStart=>exact⟨c,ag,ag,rfl,λi h1 h2=>absurd h2 ag,rfl⟩
   case round=>
    obtain⟨r,EO,hr2,rfl,hz,rfl⟩:=hrel;by_cases hrk:r<k
    .have atI:(r:Int)<(k:Int):=ag;have g1:=hS.h hrk;have g2:=hS.r hrk qB;by_cases hne:m r c=0
     .have hv:(m r c).val=0:=by rw[hne];rfl
      rw[hv]at g2;go_wp2
      go_roundw
      case rel=>
       refine⟨r+1,ag,ag,aV,λi h1 h2=>?_,trivial⟩;by_cases e:i=r
       .rw[e];exact hne
       .exact hz i h1 ag
      case measure=>simp[intOf];omega
     .have hv:((((m r c).val:Nat):Int)==0)=false:=by
       have:(m r c).val≠0:=λe=>hne (fC e)
       simp;omega
      have atJ:((r:Int)==(k:Int))=false:=aJ;have hbd:c*(k+2)<=128*130:=iI ag ag;have hBr:B<=wr.heap.size:=bF hB hS.xG.size;clear hz
      go_wp2_with(at_builtin;refine di _ rfl _ _ 91 rfl B 94 i0 (.agg #[.int .i64 0,.int .i64 0,.int .i64 0,.int .u8 0]) 4 32 Tryz.underlying91 zo xY wW vV rfl aB _ _ _ rfl (hS.st.alloc _) ⟨wr.heap.size,0,none⟩ 1 1 (stC ⟨0,c,r,0⟩) rfl rfl (FY _ _ _ _ _ _) (Zf _) bT ag aJ ?_;intro v' w1 tZ qA _)
      have AZ:=hS.push (s:=⟨0,c,r,0⟩) ((aO wr.heap.size wr).alloc (ay _) _) qA tZ hBr;have yQ:B<=w1.heap.size:=bF hB AZ.xG.size;clear tZ qA hS hBr g1 g2;have a1:=AZ.h qB;have a2:=AZ.h hrk;have f1:=AZ.fh c;have f2:=AZ.fh r;have Jc:=AZ.swap qB hrk;have d0:=(AZ.head.stored c (.slice (some ⟨bl' r,0,none⟩) k (cp' r))).1
      have d1:∃y,(w1.setCell ⟨g,c,none⟩ (.slice (some ⟨bl' r,0,none⟩) k (cp' r))).cell? ⟨g,r,none⟩=some y:=by rw[d0.cellAt r ag,Ze];exact⟨_,TD _ _ hrk⟩
      obtain⟨y,d1⟩:=d1;have d2:=d0.frozenAt r;clear d0;go_wp2;go_region;have RX:=Jc.same (w':=((w1.setCell ⟨g,c,none⟩ (.slice (some ⟨bl' r,0,none⟩) k (cp' r))).setCell ⟨g,r,none⟩ (.slice (some ⟨bl' c,0,none⟩) k (cp' c))).drew) rfl rfl rfl rfl;have F8:B<=(((w1.setCell ⟨g,c,none⟩ (.slice (some ⟨bl' r,0,none⟩) k (cp' r))).setCell ⟨g,r,none⟩ (.slice (some ⟨bl' c,0,none⟩) k (cp' c))).drew).heap.size:=bF hB RX.xG.size;have em:F.Ob ⟨0,c,r,0⟩ m c c=m r c:=by simp[F.Ob,F.ap]
      have hE:=F.aiT hR hU qB EO hrk hne;clear AZ Jc a1 a2 f1 f2 d1 d2 yQ;generalize(((w1.setCell ⟨g,c,none⟩ (.slice (some ⟨bl' r,0,none⟩) k (cp' r))).setCell ⟨g,r,none⟩ (.slice (some ⟨bl' c,0,none⟩) k (cp' c))).drew)=w3 at*;generalize agj c r bl'=bl3 at*;generalize agj c r cp'=cp3 at*;generalize F.Ob ⟨0,c,r,0⟩ m=m1 at*;have g1:=RX.h qB;have g2:=RX.r qB qB;rw[em]at g2;have ci:=λu=>aa3 (m r c).val (m r c).isLt u
      have ez:inv (m r c).val=(F.iv (m r c)).val:=rfl;rw[ez]at ci;generalize F.iv (m r c)=z at*;clear ez
      go_wp2_with(first|(go_at_call 63;(with_reducible refine(ci _).mono ?_);rintro e w' ⟨rfl,sH⟩;obtain rfl:=sH.symm)|(at_builtin;refine di _ rfl _ _ 91 rfl B 94 i0 (.agg #[.int .i64 0,.int .i64 0,.int .i64 0,.int .u8 0]) 4 32 Tryz.underlying91 zo xY wW vV rfl aB _ _ _ rfl (RX.st.alloc _) ⟨w3.heap.size,0,none⟩ 1 1 (stC ⟨1,c,c,z⟩) rfl rfl (FY _ _ _ _ _ _) (Zf _) (by unfold maxLen;simp;omega) aJ aJ ?_;intro v4 w4 anI akU _))
      have Kv:=RX.push (s:=⟨1,c,c,z⟩) ((aO w3.heap.size w3).alloc (ay _) _) akU anI F8;clear anI akU RX g1 g2 ci;go_wp2
      go_loopw [8] (λvj wq=>∃j:Nat,j<=k/\vj=.int .i64 ((j:Nat):Int)/\SS B k g hc bl3 cp3 (sc m1 c z j) (l++[⟨0,c,r,0⟩]++[⟨1,c,c,z⟩]) v4 w wq) (λi _=>k-(intOf i).toNat)
      case atStart=>exact⟨0,ag,rfl,Kv.congr λi j _ _=>av_⟩
      case round=>
       clear Kv;obtain⟨j,hj,rfl,QL⟩:=hrel;by_cases hjk:j<k
       .have arY:(j:Int)<(k:Int):=ag;have g1:=QL.h qB;have g2:=QL.r qB hjk;rw[alW]at g2;have f1:=QL.fr qB j;have cm:=λu=>GG (m1 c j).val z.val (m1 c j).isLt z.isLt u
        rw[H8]at cm;have hS6:=(QL.set (j:=j) qB (F.mu (m1 c j) z)).congr (m':=sc m1 c z (j+1)) (alY m1 c z j);generalize F.mu (m1 c j) z=mz at*;clear QL
        go_wp2_with fail
        refine uA 15 mixed ak ?_;simp only[jc,gG,jm,ik]
        repeat still_step
        still_call (cm _)
        repeat still_step
        refine wpStill_nil ?_;go_wp2;have hS7:=hS6.same (w':=(wr.setCell ⟨bl3 c,j,none⟩ (.int .u8 ((mz.val:Nat):Int))).drew) rfl rfl rfl rfl
        go_roundw
        case rel=>exact⟨j+1,ag,aV,hS7⟩
        case measure=>simp[intOf];omega
       .obtain rfl:j=k:=ag;have hS6:=QL.congr (m':=F.Ob ⟨1,c,c,z⟩ m1) (aoF m1 c z j);have E5:¬((j:Int)<(j:Int)):=ag;have hl2:(l++[⟨0,c,r,0⟩]++[⟨1,c,c,z⟩]:List F.St).length<=c*(j+2)+2:=aJ;have h0:aqz B j g hc bl3 cp3 M c w v4 (.int .i64 0) wr:=⟨0,_,_,ag,rfl,hS6,hE,ag⟩;clear QL hS6 hE hl2 hR hU;go_wp2
        go_loopw [3,9,10,11] (λvl vi _ _ wq=>aqz B j g hc bl3 cp3 M c w vl vi wq) (λ_ vi _ _ _=>j-(intOf vi).toNat)
        case atStart=>exact h0
        case round=>
         clear h0;obtain⟨i,m2,l2,Jd,rfl,hS,hE,hl2⟩:=hrel;by_cases PV:i<j
         .have atY:(i:Int)<(j:Int):=ag;have g1:=hS.h PV;have g2:=hS.r PV qB;by_cases YD:i=c
          .subst YD;have hE2:=hE.skip (.inl rfl);go_wp2
           go_roundw
           case rel=>exact⟨i+1,m2,l2,ag,aV,hS,hE2,ag⟩
           case measure=>simp[intOf];omega
          .have atK:((i:Int)==(c:Int))=false:=aJ;by_cases apE:m2 i c=0
           .have hE2:=hE.skip (.inr apE);rw[show(m2 i c).val=0 by rw[apE];rfl]at g2;go_wp2
            go_roundw
            case rel=>exact⟨i+1,m2,l2,ag,aV,hS,hE2,ag⟩
            case measure=>simp[intOf];omega
           .have hv':((((m2 i c).val:Nat):Int)==0)=false:=by
             have:(m2 i c).val≠0:=λe=>apE (fC e)
             simp;omega
            have hBr:B<=wr.heap.size:=bF hB hS.xG.size;have hE2:=hE.add qB PV YD;generalize ezz:m2 i c=zz at*
            go_wp2_with(at_builtin;refine di _ rfl _ _ 91 rfl B 94 i0 (.agg #[.int .i64 0,.int .i64 0,.int .i64 0,.int .u8 0]) 4 32 Tryz.underlying91 zo xY wW vV rfl aB _ _ _ rfl (hS.st.alloc _) ⟨wr.heap.size,0,none⟩ 1 1 (stC ⟨2,i,c,zz⟩) rfl rfl (FY _ _ _ _ _ _) (Zf _) bT ag aJ ?_;intro v' w1 tZ qA _)
            have AZ:=hS.push (s:=⟨2,i,c,zz⟩) ((aO wr.heap.size wr).alloc (ay _) _) qA tZ hBr;clear tZ qA hS hBr g1 g2 hE;go_wp2
            go_loopw [11] (λvj wq=>∃t:Nat,t<=j/\vj=.int .i64 ((t:Nat):Int)/\SS B j g hc bl3 cp3 (ad m2 i c zz t) (l2++[⟨2,i,c,zz⟩]) v' w wq) (λx _=>j-(intOf x).toNat)
            case atStart=>exact⟨0,ag,rfl,AZ.congr λi' j' _ _=>au3⟩
            case round=>
             clear AZ;obtain⟨t,htj,rfl,QL⟩:=hrel;by_cases TP:t<j
             .have arZ:(t:Int)<(j:Int):=ag;have g1:=QL.h PV;have g2:=QL.r PV TP;have g3:=QL.h qB;have g4:=QL.r qB TP;rw[alX]at g2;rw[arX m2 YD]at g4;have f1:=QL.fr PV t;have cm:=λu=>GG zz.val (m2 c t).val zz.isLt (m2 c t).isLt u
              rw[H8]at cm;have hx:=u8_xor_nat (m2 i t).val (F.mu zz (m2 c t)).val (m2 i t).isLt (F.mu zz (m2 c t)).isLt;rw[show(m2 i t).val^^^(F.mu zz (m2 c t)).val=(F.add (m2 i t) (F.mu zz (m2 c t))).val from rfl]at hx;have hS6:=(QL.set (j:=t) PV (F.add (m2 i t) (F.mu zz (m2 c t)))).congr (m':=ad m2 i c zz (t+1)) (alZ m2 i c zz t);generalize F.add (m2 i t) (F.mu zz (m2 c t))=az at*;generalize F.mu zz (m2 c t)=mz at*;clear QL
              go_wp2_with fail
              refine uA 23 mixed ak ?_;simp only[jc,gG,jm,ik]
              repeat still_step
              still_call (cm _)
              repeat still_step
              refine wpStill_nil ?_;go_wp2;have hS7:=hS6.same (w':=(wr.setCell ⟨bl3 i,t,none⟩ (.int .u8 ((az.val:Nat):Int))).drew) rfl rfl rfl rfl
              go_roundw
              case rel=>exact⟨t+1,ag,aV,hS7⟩
              case measure=>simp[intOf];omega
             .obtain rfl:t=j:=ag;have hS6:=QL.congr (m':=F.Ob ⟨2,i,c,zz⟩ m2) (aoG m2 i c zz t);have alP:¬((t:Int)<(t:Int)):=ag;go_wp2
              go_roundw
              case rel=>exact⟨i+1,_,_,ag,aV,hS6,hE2,aJ⟩
              case measure=>simp[intOf];omega
         .obtain rfl:i=j:=ag;have aat:¬((i:Int)<(i:Int)):=ag;go_wp2
          go_roundw
          case rel=>exact⟨c+1,m2,l2,bl3,cp3,ag,aV,hS,hE.rs,hE.done qB,by rw[fP];omega⟩
          case measure=>simp[intOf];omega
    .obtain rfl:r=k:=ag;obtain⟨r',h1,h2,h3⟩:=hR.akT hi hU qB;exact absurd (hz r' h1 h2) h3
  .obtain rfl:c=k:=ag;have E5:¬((c:Int)<(c:Int)):=ag;go_wp2;go_ret;exact⟨_,m,l,rfl,hS.st,hR,hU,hS.xG,hll⟩
theorem agm{k:Nat}{ix:Nat->Nat}(hi:∀i j,i<k->j<k->i≠j->ix i≠ix j):∃σ,FT k ix σ:=by
 have key:∀c,c<=k->∃fl O,Pl k ix c fl O:=λc=>by
  induction c with
  |zero=>exact λ_=>⟨_,_,aa4 k ix⟩
  |succ c ih=>
   intro hc;obtain⟨fl,O,h⟩:=ih ag;rcases bK (ix c) k with h1|h1
   .exact⟨_,_,(h.own (λi YD=>hi i c ag ag ag) h1).2⟩
   .exact⟨_,_,h.other h1⟩
 obtain⟨fl,O,h⟩:=key k (ay _);exact⟨_,h.akV hi⟩
theorem aqA{K:Nat}{px:Nat->F}{M:Nat->Nat->F}(h:F.Sq K px M):∃B A,F.Gj K M K A B:=by
 have key:∀t,t<=K->∃B A,F.Gj K M t A B:=λt=>by
  induction t with
  |zero=>exact λ_=>⟨_,_,F.aa5 K M⟩
  |succ t ih=>
   intro ht;obtain⟨B,A,hg⟩:=ih ag;exact⟨_,_,F.ae1 h hg ag⟩
 exact key K (ay _)
theorem al0{K:Nat}{ix σ:Nat->Nat}{B:Nat->Nat->F}(uD:FT K ix σ)(hg:∃A,F.Gj K (mF K λs=>ix (σ s)) K A B):F.Inj K (mF K ix):=by
 obtain⟨A,hg⟩:=hg
 have z:∀r:Nat->F,F.dot K r (λ_=>0)=0:=λr=>by unfold F.dot;exact F.UT _ λi _=>F.zK _
 intro x hx i hi;have h1:=(hg.same x (λ_=>0)).2 (λs hs=>hx (σ s) (uD.lt s hs)) i hi;rw[z,F.yw hi λj hj=>avw]at h1;exact h1
theorem aiQ{M K L:Nat}{sh:Nat->vZ}(hK:1<=K)(hK2:K<=128)(hKM:K<=M)(hk:(sh 0).k=K)(hL:L=rO K (sh 0).sizes.sum)(hx:∀i,i<K->(sh i).i<128)(hne:∀i j,i<K->j<K->i≠j->(sh i).i≠(sh j).i):
  ∃xs:Nat->Nat->F,F.Inj K (mF K λi=>(sh i).i)/\(∀m,m<L->∀i,i<K->F.dot K (mF K (λi=>(sh i).i) i) (λj=>xs j m)=Fin.ofNat 256 (sV (sh i).qC m))/\∀l,D8 M sh l->(zU K L λt m=>(xs t m).val).flatten.take (sh 0).sizes.sum=l:=by
 obtain⟨σ,uD⟩:=agm (ix:=λi=>(sh i).i) hne;obtain⟨B,hg⟩:=aqA (aij hK2 uD hx);refine⟨λt m=>xF K B (λi m=>sV (sh i).qC m) σ t m,al0 uD hg,λm _ i hi=>alD (q:=⟨L,λi=>(sh i).i,λ_=>none,λ_=>0⟩) uD hg hi,λl ⟨h1,h2⟩=>?_⟩;rw[<-h1];refine UH (by rw[h1,hL];exact Y7 hK _) λt m ht hm=>?_
 refine aeT uD hg (λi hi=>?_) ht;have:=h2 i ag;rw[hk,<-hL]at this;show sV (sh i).qC m=_;rw[this];exact aa6 l _ hm
def lsB(L:Nat)(xs:Nat->Nat->F)(j:Nat):aj:=(List.range L).map λm=>UInt8.ofNat (xs j m).val
theorem aeY(L:Nat)(xs:Nat->Nat->F)(j:Nat):(lsB L xs j).length=L:=by simp[lsB]
theorem Q4(L:Nat)(xs:Nat->Nat->F):∀K,qM (lsB L xs) K=(zU K L λt m=>(xs t m).val).flatten
 |0=>rfl
 |K+1=>by have:=Q4 L xs K;simp only[qM,zU]at this⊢;rw[dP,iP,auT,this];simp[lsB]
theorem alT(L:Nat)(xs:Nat->Nat->F)(j:Nat):IQ L (xs j)=rP (lsB L xs j):=by
 unfold IQ rP lsB;rw[kV];refine g_ λm _=>?_
 show _=Value.int .u8 (((UInt8.ofNat (xs j m).val).toNat:Nat):Int);rw[jy,dB (xs j m).isLt]
theorem XD{sz:aC}{l:aj}:∀i,i<=sz.length->qM (λj=>Oa sz l j) i=l.take (pre sz i)
 |0,_=>by simp[qM,pre]
 |i+1,h=>by rw[qM,XD i ag,Eh ag,List.take_add];rfl
theorem aiV{sz:aC}{l:aj}{i:Nat}(hi:i<sz.length):Oa sz (l.take sz.sum) i=Oa sz l i:=by have h1:=Eh hi;have h2:=Y8 sz (i+1);unfold Oa;rw[List.drop_take,List.take_take,ni ag]
theorem al1(sz:aC):pre sz sz.length=sz.sum:=QO
theorem ae2{s t:vZ}(h:t.k=s.k/\t.n=s.n/\t.c=s.c/\t.names=s.names/\t.sizes=s.sizes):D7 s t=true:=by obtain⟨h1,h2,h3,h4,h5⟩:=h;simp[D7,h1,h2,h3,h4,h5]
theorem H7{M:Nat}{sh:Nat->vZ}(h:UO M sh){i:Nat}(hi:i<M):(sh i).k=(sh 0).k/\(sh i).n=(sh 0).n/\(sh i).c=(sh 0).c/\(sh i).names=(sh 0).names/\(sh i).sizes=(sh 0).sizes:=by obtain⟨h1,h2,h3,h4,h5⟩:=Ol (h i hi);exact⟨h1.symm,h2.symm,h3.symm,h4.symm,h5.symm⟩
section
variable {M:Nat}{sh:Nat->vZ}{g:Nat->Nat}(hP:Prm M g)
include hP
theorem al2:NG M (λi=>sh (g i))↔UO M sh:=by
 constructor
 .intro h i hi;obtain⟨a,ha,rfl⟩:=hP.onto i hi;obtain⟨b,hb,e⟩:=hP.onto 0 ag;obtain⟨a1,a2,a3,a4,a5⟩:=Ol (h a ha);obtain⟨b1,b2,b3,b4,b5⟩:=Ol (h b hb);dsimp only at*;rw[e]at b1 b2 b3 b4 b5;exact ayk
 .intro h i hi;obtain⟨a1,a2,a3,a4,a5⟩:=H7 h (hP.lt i hi);obtain⟨b1,b2,b3,b4,b5⟩:=H7 h (hP.lt 0 ag);exact ayk
theorem al3(hs:∀i,i+1<M->(sh (g i)).i<=(sh (g (i+1))).i):Dup M (λi=>sh (g i))↔aiR M sh:=by
 have mono:∀d a,a+d<M->(sh (g a)).i<=(sh (g (a+d))).i:=λd=>by
  induction d with
  |zero=>exact λa _=>ay _
  |succ d ih=>exact λa ha=>bF (ih a ag) (hs (a+d) ag)
 constructor
 .rintro⟨t,ht,e⟩;have hne:=hP.inj t (t+1) ag ht ag;rcases bK (g t) (g (t+1))with h|h
  .exact⟨g (t+1),g t,h,hP.lt _ ht,e⟩
  .exact⟨g t,g (t+1),ag,hP.lt _ ag,e.symm⟩
 .rintro⟨i,j,hji,hi,e⟩;obtain⟨a,ha,rfl⟩:=hP.onto i hi;obtain⟨b,hb,rfl⟩:=hP.onto j ag
  have key:∀a b,a<b->b<M->(sh (g a)).i=(sh (g b)).i->Dup M (λi=>sh (g i)):=λa b V7 hb e=>by have h1:=hs a ag;have h2:=mono (b-(a+1)) (a+1) ag;rw[show a+1+(b-(a+1))=b by omega]at h2;exact⟨a,ag,by dsimp only;omega⟩
  rcases bK a b with h|h
  .exact key a b h hb e
  .have hne:a≠b:=λh=>by subst h;omega
   exact key b a ag ha e.symm
theorem aiW(hs:∀i,i+1<M->(sh (g i)).i<=(sh (g (i+1))).i){e e':Nat}(h:G5 M (λi=>sh (g i)) e)(h':ac_ M sh e'):e=e':=by
 unfold G5 at h;rw[al2 hP,al3 hP hs]at h;have hk:UO M sh->0<M->(sh (g 0)).k=(sh 0).k:=λhA h0=>(H7 hA (hP.lt 0 h0)).1
 rcases h with⟨rfl,h1⟩|⟨rfl,h1,h2⟩|⟨rfl,h1,h2,h3⟩|⟨rfl,h1,h2,h3,h4⟩<;>rcases h' with⟨rfl,g1⟩|⟨rfl,g1,g2⟩|⟨rfl,g1,g2,g3⟩|⟨rfl,g1,g2,g3,g4⟩
 all_goals first|rfl|exact absurd h1 g1|exact absurd g1 h1|exact absurd h2 g2|exact absurd g2 h2|skip
 .have:=hk h1 g3;dsimp only at*;omega
 .have:=hk h1 h3;dsimp only at*;omega
theorem XE(hA:UO M sh)(h0:0<M)(l:aj):D8 M (λi=>sh (g i)) l↔D8 M sh l:=by
 obtain⟨a1,_,_,_,a5⟩:=H7 hA (hP.lt 0 h0);unfold D8 Xl;dsimp only;rw[a1,a5];refine and_congr_right λ_=>⟨λh t ht=>?_,λh t ht=>h _ (hP.lt t ht)⟩
 obtain⟨a,ha,rfl⟩:=hP.onto t ht;exact h a ha
end
end Go.Proofs.Y
namespace Go.Proofs.Y
open Go.RowKit Go.Deep Go.Hp
open Classical in
noncomputable def dBy(m:Nat)(f:Nat->rU)(D:Nat->aj)(e:rU):aj:=if h:∃i,i<m/\(f i).k=e.k then D h.choose else[]
theorem aiX{m:Nat}{f:Nat->rU}{D:Nat->aj}(hF:yt m f){i:Nat}(hi:i<m):dBy m f D (f i)=D i:=by
 have h:∃j,j<m/\(f j).k=(f i).k:=⟨i,hi,rfl⟩;unfold dBy;rw[kG h];have h1:=h.choose_spec
 congr 1
 rcases auL h.choose i with q|q|q
 .exact absurd h1.2 (hF.2 _ _ q hi)
 .exact q
 .exact absurd h1.2.symm (hF.2 _ _ q h1.1)
theorem ade{m:Nat}{ns:List (aj)}{f:Nat->rU}(hk:∀j,j<m->(f j).k=ns.getD j [])(hl:ns.length=m)(hN:Dk ns):yt m f/\Om m f:=by
 have e:uf m f=ns:=by
  refine Qh (by rw[JD,hl]) λj hj=>?_
  rw[JD]at hj;simp[uf,hj,hk j hj,bQ (show j<ns.length by omega)]
 rw[<-e]at hN
 have hS:Om m f:=λi hi=>by
  have h1:=OW hN i hi;rcases Hp.Jk (f i).k (f (i+1)).k with⟨_,h2,_⟩|⟨_,h2,_⟩|⟨_,h2,_⟩
  .exact h2
  .rw[h1]at h2;cases h2
  .rw[h1]at h2;cases h2
 exact⟨(agn (qX.refl m f) hS).1 hN,hS⟩
theorem Q5{D D':Nat->aj}:∀n,(∀i,i<n->D i=D' i)->qM D n=qM D' n
 |0,_=>rfl
 |n+1,h=>by rw[qM,qM,Q5 n λi hi=>h i ag,h n ag]
theorem XC{D:Nat->aj}{L:Nat}:∀n,(∀i,i<n->(D i).length=L)->(qM D n).length=n*L
 |0,_=>by simp[qM]
 |n+1,h=>by rw[qM,bM,XC n λi hi=>h i ag,h n ag,fP]
theorem aaZ{m:Nat}{sz:aC}{l:aj}{f f':Nat->rU}(hF:yt m f)(hS:Om m f)(hm:sz.length=m)(hR:qX m f f')(IJ:Om m f'):qM (λj=>dBy m f (Oa sz l) (f' j)) m=l.take sz.sum:=by rw[XF m (aak hF (qX.refl m f) hR hS IJ),Q5 m λi hi=>aiX hF hi,XD m ag,<-hm,al1]
theorem Wn.data{B:Nat}{ns:List (aj)}{sz:aC}{l:aj}{m i:Nat}{f:Nat->rU}{vo:ai}{w:ah}(h:Wn B ns sz l m f vo w)(hF:yt m f)(hi:i<m):D_ w (f i) (dBy m f (Oa sz l) (f i)):=by
 rw[aiX hF hi];have ho:=(h.dat i hi).2;have hL:=yT ho;rcases ho.2 with⟨e1,e2⟩|⟨g,c,_,e1,_⟩
 .obtain⟨x1,x2,x3⟩:=auE e1;exact⟨by rw[e2,x2],.inl ⟨x1,x2,x3⟩⟩
 .obtain⟨x1,x2,_⟩:=auE e1;refine⟨x2.symm,.inr ⟨_,x1,λj u hj=>?_⟩⟩;rw[e1]at hL;obtain⟨b',o',e',hc⟩:=hL.get hj;cases e';rw[Addr.add_mid];exact hc
theorem Wn.take{B:Nat}{ns:List (aj)}{sz:aC}{l:aj}{m:Nat}{f:Nat->rU}{vo:ai}{w:ah}(h:Wn B ns sz l m f vo w)(hm:sz.length=m):Wn B ns sz (l.take sz.sum) m f vo w:=
 ⟨h.row,λj hj=>⟨(h.dat j hj).1,by rw[aiV ag];exact(h.dat j hj).2⟩⟩
theorem Wn.Ag{B B':Nat}{ns:List (aj)}{sz:aC}{l:aj}{m:Nat}{f:Nat->rU}{vo:ai}{w w':ah}(h:Wn B ns sz l m f vo w)(hb:Below B' w w')(hB:w.heap.size<=B'):Wn B ns sz l m f vo w':=
 ⟨xw h.row hb hB,λj hj=>⟨(h.dat j hj).1,xw (h.dat j hj).2 hb hB⟩⟩
