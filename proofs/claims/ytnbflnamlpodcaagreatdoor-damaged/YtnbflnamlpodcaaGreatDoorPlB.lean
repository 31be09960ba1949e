import Derived.Test.YtnbflnamlpodcaaGreatDoorPrC
set_option maxHeartbeats 4000000
set_option maxRecDepth 100000
namespace Go.Proofs.Y
open Go.Proofs.Tryz
open Go.RowKit Go.Deep
structure TQ(w:World)(bo:Option Addr)(n:Nat)(sh:Nat->xg)(vN vS vC:Nat->Value):Prop where
 cells:SC w bo n (λi=>VR (sh i) (vN i) (vS i) (vC i))
 nm:∀i,i<n->qR w (vN i) (wO (sh i).names)/\(sh i).names.length<=1048576
 sz:∀i,i<n->qR w (vS i) (zF (sh i).sizes)/\(sh i).sizes.length<=1048576
 cl:∀i,i<n->qR w (vC i) (r_ (sh i).qy)
 kn:∀i,i<n->(sh i).k<=1048576
theorem qR.one{w:World}{v:Value}{xs:List Value}(h:qR w v xs):v.oneCell'=true:=by obtain⟨ba,cap,rfl,_⟩:=h;rfl
theorem qR.adw{w w':World}{v:Value}{xs:List Value}{B:Nat}(h:qR w v xs)(hb:Below B w w')(hB:w.heap.size<=B):qR w' v xs:=h.below (hb.mono hB)
theorem TQ.below{w w':World}{bo:Option Addr}{n B:Nat}{sh:Nat->xg}{vN vS vC:Nat->Value}(h:TQ w bo n sh vN vS vC)(hb:Below B w w')(hB:w.heap.size<=B):TQ w' bo n sh vN vS vC:=
 ⟨h.cells.below hb hB,λi hi=>⟨(h.nm i hi).1.adw hb hB,(h.nm i hi).2⟩,λi hi=>⟨(h.sz i hi).1.adw hb hB,(h.sz i hi).2⟩,λi hi=>(h.cl i hi).adw hb hB,h.kn⟩
def CX(n:Nat)(sh:Nat->xg):Prop:=∀i,i<n->RV (sh 0) (sh i)=true
def Dup(n:Nat)(sh:Nat->xg):Prop:=∃t,t+1<n/\(sh (t+1)).i=(sh t).i
def FX(n:Nat)(sh:Nat->xg)(e:Nat):Prop:=(e=10/\¬CX n sh)\/(e=11/\CX n sh/\Dup n sh)\/(e=12/\CX n sh/\¬Dup n sh/\(n=0\/n<(sh 0).k))\/(e=0/\CX n sh/\¬Dup n sh/\0<n/\(sh 0).k<=n)
def amu(n:Nat)(sh:Nat->xg)(w:World)(r:Ending)(w':World):Prop:=Below w.heap.size w w'/\∃e v,FX n sh e/\r=.returned v/\(e=0->v=.nilIface)/\(e≠0->∃p,sG w' 0 v e p)
theorem OQ(n cap:Nat)(bo:Option Addr)(sh:Nat->xg)(vN vS vC:Nat->Value)(w:World)(hn:n<=1048576)(H:TQ w bo n sh vN vS vC):
  Calls prog 36 #[.slice bo n cap] w λr w'=>amu n sh w r w':=by
 go_enter func36,ntmps36;go_wp2
 go_loopw [3,4,8] (λ_ _ vi wr=>∃j:Nat,j<=n/\vi=.int .i64 (j:Int)/\Below w.heap.size w wr/\CX j sh) (λ_ _ vi _=>n-(intOf vi).toNat)
 case atStart=>exact⟨0,ae,rfl,aA _ _,λi hi=>absurd hi ae⟩
 case round=>
  obtain⟨j,hj,rfl,hb,xe⟩:=hrel;have Hr:=H.below hb (ak _);by_cases qE:j<n
  .have Ag:(j:Int)<(n:Int):=ae;have h0n:(0:Int)<(n:Int):=ae;obtain⟨b,o,rfl,Ns,hcell⟩:=Hr.cells ae;have rj:=hcell j qE;have r0:=hcell 0 ae;have tN:=xY _ (Hr.nm j qE).1.one;have tS:=xY _ (Hr.sz j qE).1.one;have tC:=xY _ (Hr.cl j qE).one;unfold VR at rj r0;obtain⟨p0,p1,p2,p3,p4,p5,p6⟩:=PU rj;obtain⟨q0,q1,q2,q3,q4,q5,q6⟩:=PU r0;simp only[fH,eY]at q0 q1 q2 q3 q4 q5 q6;have b1:Below wr.heap.size wr (wr.alloc (.cells (VR (sh j) (vN j) (vS j) (vC j)).toArray 55)):=(aA _ _).alloc (ak _) _;have cn:=D7 wr (VR (sh j) (vN j) (vS j) (vC j)) 55;have H1:=Hr.below b1.drew (ak _);have k1:=agI (sh 0) (sh j) (vN 0) (vS 0) (vC 0) (vN j) (vS j) (vC j) _ (H1.nm 0 ae).1 (H1.sz 0 ae).1 (H1.nm j qE).1 (H1.sz j qE).1 (H1.nm 0 ae).2 (H1.sz 0 ae).2;have q':∀{x:Nat}{u:Value},wr.cell? ⟨b,x,none⟩=some u->(wr.alloc (.cells (VR (sh j) (vN j) (vS j) (vC j)).toArray 55)).cell? ⟨b,x,none⟩=some u:=λ{x u} h=>(b1.cell (p:=⟨b,x,none⟩) Ns).trans h;replace q0:=q' q0;replace q1:=q' q1;replace q2:=q' q2;replace q3:=q' q3;replace q4:=q' q4;replace q5:=q' q5;replace q6:=q' q6;have c0:=cn 0;have c1:=cn 1;have c2:=cn 2;have c3:=cn 3;have c4:=cn 4;have c5:=cn 5;have c6:=cn 6;have b2:=hb.trans (b1.mono hb.size);simp only[VR,iU,iV]at c0 c1 c2 c3 c4 c5 c6 k1 q0 q1 q2 q3 q4 q5 q6 b2;clear H1 cn q' r0 rj hcell b1
   go_wp2_with fail
   generalize BB:wr.alloc (.cells #[.int .i64 ((sh j).k:Int),.int .i64 ((sh j).n:Int),.int .i64 ((sh j).i:Int),.int .i64 ((sh j).c:Int),vN j,vS j,vC j] 55)=w1 at*;clear BB p0 p1 p2 p3 p4 p5 p6 tN tS tC;rcases ho:RV (sh 0) (sh j)with _|_
   .rw[ho]at k1
    go_region_with (first|(go_at_call 63;(with_reducible refine k1.mono ?_);rintro r w2 ⟨rfl,sZ⟩))
    all_goals
     go_wp2_with(first|(go_at_call 64;refine(Am _ _ 10 j ax ai _).mono ?_;rintro q w3 ⟨v,rfl,h1,h2⟩))
     go_ret;exact⟨(b2.drew.trans (sZ.mono b2.size)).trans (h2.mono (aJ b2.size sZ.size)),10,v,.inl ⟨rfl,λhA=>by have:=hA j qE;rw[ho]at this;cases this⟩,rfl,λh=>absurd h au,λ_=>⟨j,h1⟩⟩
   .rw[ho]at k1
    go_region_with (first|(go_at_call 63;(with_reducible refine k1.mono ?_);rintro r w2 ⟨rfl,sZ⟩))
    all_goals
     go_wp2
     go_roundw
     case rel=>exact⟨j+1,ae,aW,b2.drew.trans (sZ.mono b2.size),λi hi=>by
      by_cases e:i=j
      .rw[e];exact ho
      .exact xe i ae⟩
     case measure=>simp[intOf];omega
  .obtain rfl:j=n:=ae;have GH:¬((j:Int)<(j:Int)):=ae;go_wp2
   go_loopw [5] (λvt w2=>∃x:Nat,(x+1<=j\/x=0)/\vt=.int .i64 ((x:Int)+1)/\Below w.heap.size w w2/\∀y,y<x->(sh (y+1)).i≠(sh y).i) (λvt _=>j+1-(intOf vt).toNat)
   case atStart=>exact⟨0,.inr rfl,rfl,hb,λy hy=>absurd hy ae⟩
   case round=>
    clear hb Hr;obtain⟨x,hx,rfl,hb,arB⟩:=hrel;have Hr:=H.below hb (ak _);by_cases qE:x+1<j
    .have akJ:(x:Int)+1<(j:Int):=ae;have apq:(x:Int)<(j:Int):=ae;have ed:((x:Int)+1)-1=(x:Int):=ae;obtain⟨b,o,rfl,Ns,hcell⟩:=Hr.cells ae;have c1:=hcell (x+1) qE 2 _ rfl;have c0:=hcell x ae 2 _ rfl;clear hcell;rcases he:(((sh (x+1)).i:Int)==((sh x).i:Int))with _|_
     .go_wp2_with fail
      go_region;go_wp2
      go_roundw
      case rel=>exact⟨x+1,.inl ae,aW,hb.drew,λy hy=>by
       by_cases e:y=x
       .rw[e];intro h;rw[h]at he;simp at he
       .exact arB y ae⟩
      case measure=>simp[intOf];omega
     .go_wp2_with fail
      go_region
      go_wp2_with(first|(go_at_call 64;refine(Am 11 ((x:Int)+1) 11 (x+1) rfl ae _).mono ?_;rintro q w3 ⟨v,rfl,h1,h2⟩))
      go_ret;exact⟨hb.drew.trans (h2.mono hb.size),11,v,.inr (.inl ⟨rfl,xe,x,qE,by have:=eq_of_beq he;omega⟩),rfl,λh=>absurd h au,λ_=>⟨_,h1⟩⟩
    .have GH:¬((x:Int)+1<(j:Int)):=ae;have hnd:¬Dup j sh:=λ⟨t,ht,e⟩=>arB t ae e;rcases dK j with h0|h0
     .subst h0
      go_wp2_with(first|(go_at_call 64;refine(Am _ _ 12 0 ax ax _).mono ?_;rintro q w3 ⟨v,rfl,h1,h2⟩))
      go_ret;exact⟨hb.trans (h2.mono hb.size),12,v,.inr (.inr (.inl ⟨rfl,xe,hnd,.inl rfl⟩)),rfl,λh=>absurd h au,λ_=>⟨_,h1⟩⟩
     .have he:((j:Int)==0)=false:=az;have h0n:(0:Int)<(j:Int):=ae;obtain⟨b,o,rfl,Ns,hcell⟩:=Hr.cells h0;have c0:=hcell 0 h0 0 _ rfl;simp only[fH,eY]at c0;clear hcell;by_cases hk:(j:Int)<((sh 0).k:Int)
      .go_wp2_with(first|(go_at_call 64;refine(Am _ _ 12 j ax ai _).mono ?_;rintro q w3 ⟨v,rfl,h1,h2⟩))
       go_ret;exact⟨hb.trans (h2.mono hb.size),12,v,.inr (.inr (.inl ⟨rfl,xe,hnd,.inr ae⟩)),rfl,λh=>absurd h au,λ_=>⟨_,h1⟩⟩
      .go_wp2;go_ret;exact⟨hb,0,_,.inr (.inr (.inr ⟨rfl,xe,hnd,h0,ae⟩)),rfl,λ_=>rfl,λh=>absurd rfl h⟩
def LV(z pl:Nat)(t:List UInt8):Option (Nat×Nat):=
 if t.length<z then some (4,pl+t.length)
 else if sumOf (part t 0 (t.length-8))=le (part t (t.length-8) 8) 0 8 then none else some (6,pl+(t.length-8))
def zx(w:World)(x:Option (Nat×Nat))(bt:Option Addr)(tl ct:Nat)(q:Ending)(w':World):Prop:=
 match x with
 |some e=>∃v,q=.returned (.tuple #[.slice none 0 0,v])/\sG w' 0 v e.1 e.2/\Below w.heap.size w w'
 |none=>q=.returned (.tuple #[.slice bt (tl-8) ct,.nilIface])/\∃j,w'=w.drewN j
section
variable (rb:Nat)(r:Rd)(bc:Option Addr)(cl cc:Nat)(hC:r.vC=.slice bc cl cc)(hm:r.m<=1000000)(hc:r.c<=1000000)(hl:r.ln<=1000000)(KP:cl<=r.ln)(NG:r.nx<=2)(t:List UInt8)(bt:Option Addr)(ct:Nat)(hT:r.vT=.slice bt t.length ct)(Yp:t.length<=1000000000)(vP:r.pl<=1000000000000)(w:World)(h:xR w rb r)(hL:qR w r.vT (r_ t))(uN:CQ w)
include hC hm hc hl KP NG hT Yp vP h hL uN in
theorem JI:
  Calls prog 135 #[.pointer (some ⟨rb,0,none⟩)] w λq w'=>zx w (LV (yB r.nx r.c r.m r.ln cl) r.pl t) bt t.length ct q w':=by
 have hz8:8<=yB r.nx r.c r.m r.ln cl:=by
  unfold yB;split
  .omega
  .split
   .omega
   .split
    .omega
    .omega
 have KY:=X9 rb r bc cl cc hC hm hc hl KP ae bt t.length ct hT w h;have KN:=abV rb r bc cl cc hC hm hc hl KP ae bt t.length ct hT Yp vP w h;obtain⟨z,ez⟩:∃z,yB r.nx r.c r.m r.ln cl=z:=⟨_,rfl⟩;simp only[ez]at KY KN hz8⊢;have ZW:w.cell? ⟨rb,12,none⟩=some (.slice bt t.length ct):=au5;have TF:w.cell? ⟨rb,11,none⟩=some (.int .i64 (r.pl:Int)):=qf.cell h rfl;obtain⟨pl,WT⟩:∃pl,r.pl=pl:=⟨_,rfl⟩;rw[WT]at TF vP KN⊢;rcases aQ t.length z with q|q
 .have HP:Hid (LV z pl t=some (4,pl+t.length)):=aj q;have K:=KN q;clear KY KN h hC hT hL;go_enter func135,ntmps135
  go_wp2_with(first|(go_at_call 140;refine K.mono ?_;rintro q w2 ⟨v,rfl,g1,g2⟩;obtain⟨ty,x,rfl⟩:=g1.iface))
  go_ret2;unfold zx;rw[HP.out];exact⟨_,rfl,g1,g2⟩
 .have K:=KY q
  obtain⟨b,off,eb,hby⟩:∃b off,bt=some ⟨b,off,none⟩/\CS w b off t:=by obtain⟨ba,cap,e1,e2,e3⟩:=hL;rw[hT,sN]at e1;cases e1;obtain⟨b,off,e4,_⟩:=e3 0 _ (wR ae);refine⟨b,off,e4,λi hi=>?_⟩;obtain⟨b',ahd,e5,e6⟩:=e3 i _ (wR hi);rw[e4]at e5;cases e5;exact e6
  subst eb;obtain⟨en,een⟩:∃en,t.length=en+8:=⟨t.length-8,ae⟩
  have BD:t.length<=ct:=by obtain⟨ba,cap,e1,e2,e3⟩:=hL;rw[hT,sN]at e1;cases e1;rw[sN]at e2;exact e2
  have Iq:CS w b off (part t 0 en):=by have:=hby.part (a:=0) (n:=en) ae;exact this
  have Ae:CS w b (off+en) (part t en 8):=hby.part ae;have e1:(part t 0 en).length=en:=qF ae;have e2:(part t en 8).length=8:=qF ae;have K1:=λn cap=>XK b off cap (part t 0 en) ae (w.drewN n) Iq (uN.heap rfl)
  have K2:=λn cap=>wY b (off+en) 8 cap (part t en 8) e2 ae (w.drewN n) Ae
  rw[e1]at K1
  have hS:LV z pl t=if sumOf (part t 0 en)=le (part t en 8) 0 8 then none else some (6,pl+en):=by unfold LV;rw[ah ae,een,gz]
  have x9:=IJ (part t 0 en);have zD:le (part t en 8) 0 8<2^64:=by have:=Rn (part t en 8) 8 0;simpa using this
  obtain⟨s1,KZ⟩:∃s1,sumOf (part t 0 en)=s1:=⟨_,rfl⟩;obtain⟨s2,es2⟩:∃s2,le (part t en 8) 0 8=s2:=⟨_,rfl⟩;rw[KZ,es2]at hS;simp only[KZ]at K1 x9;simp only[es2]at K2 zD;have HS:Hid (LV z pl t=if s1=s2 then none else some (6,pl+en)):=hS;rw[een]at ZW BD Yp⊢;clear KY KN h hC hT hL hS KZ es2 e1 e2 Iq Ae hby een;by_cases qs:s1=s2
  .have HP:Hid (LV z pl t=none):=by rw[HS.out,aj qs];exact rfl
   subst qs;clear HS;go_enter func135,ntmps135
   go_wp2_with(first|(go_at_call 140;refine K.mono ?_;rintro q w2 ⟨rfl,j,xG⟩;obtain rfl:=xG.symm))
   go_big_quiet (first|(go_at_call 76;exact(K1 _ _).mono (λ_ _ h=>⟨h.1,_,h.2⟩))|(go_at_call 141;exact(K2 _ _).mono (λ_ _ h=>⟨h.1,_,h.2⟩)))
   go_wp2;go_ret2;unfold zx;rw[HP.out];exact⟨rfl,_,rfl⟩
  .have HP:Hid (LV z pl t=some (6,pl+en)):=by rw[HS.out,ah qs];exact rfl
   have q':((s1:Int)==(s2:Int))=false:=az;have q2:((s1:Int) != (s2:Int))=true:=az;have VV:IntKind.i64.wrap ((pl:Int)+(en:Int))=(pl:Int)+(en:Int):=dV _ ae;clear HS;go_enter func135,ntmps135
   go_wp2_with(first|(go_at_call 140;refine K.mono ?_;rintro q w2 ⟨rfl,j,xG⟩;obtain rfl:=xG.symm))
   go_big_quiet (first|(go_at_call 76;exact(K1 _ _).mono (λ_ _ h=>⟨h.1,_,h.2⟩))|(go_at_call 141;exact(K2 _ _).mono (λ_ _ h=>⟨h.1,_,h.2⟩)))
   go_wp2_with(first|(go_at_call 64;refine(Am _ _ 6 (pl+en) ax ai _).mono ?_;rintro q w2 ⟨v,rfl,g1,g2⟩))
   go_ret2;unfold zx;rw[HP.out];exact⟨_,rfl,g1,⟨g2.os,g2.tape,g2.output,g2.size,g2.block⟩⟩
end
theorem OT{P:Program}{o:Oper}{a:Act}{w:World}{K K':Act->Prop}(hk:∀a,K a->K' a)(h:o.quiet P a (λw'=>w'=w) K):o.still P a w K':=by
 obtain⟨v,h1,h2⟩:=h;have h3:=h1 w rfl;unfold Oper.quietAt at h3;unfold Oper.still;generalize(execOp a.eval o).run P w=R at h3;unfold Oper.quietUpon at h3;unfold Oper.stillUpon;split at h3
 .exact⟨h3.1,by rw[h3.2];exact hk _ h2⟩
 .exact⟨h3.1,by rw[<-h3.2];exact hk _ h2⟩
 .exact⟨h3.1,v,h3.2,hk _ h2⟩
 .exact h3.elim
theorem Eu{P:Program}{ops:Array Oper}{w:World}{Q:Act->Prop}:∀(l:List Oper)(a:Act),wpQuiet P ops (λw'=>w'=w) Q l a->wpStill P ops w Q l a
 |[],_,h=>h
 |o::rest,a,h=>by
  unfold wpQuiet at h;unfold wpStill;split
  .rename_i hw;rw[aj hw]at h;exact OT (λa'=>Eu rest a') h
  .rename_i hw;rw[ah hw]at h;exact Eu rest _ h
theorem Cf{P:Program}{id:Nat}{Q:Exit->Act->World->Prop}{a:Act}{w:World}{l:List Oper}(n:Nat)(hm:P.follows .mixedOrders=true)(hB:Region.lexTailB .any l.toArray n=true)
  (h:wpQuiet P l.toArray (λw'=>w'=w.drew) (λa'=>wpList P l.toArray Q (l.drop n) a' w.drew) (l.take n) a):(Code.region id l.toArray true).wp P Q a w:=
 Ej n hm hB (Eu _ _ h)
end Go.Proofs.Y
namespace Go.Proofs.Y
open Go.Proofs.Tryz
def At(Z:List UInt8)(a:Nat)(t:List UInt8):Prop:=a+t.length<=Z.length/\∀i,i<t.length->tJ Z (a+i)=tJ t i
theorem At.more{Z t:List UInt8}{a:Nat}(h:At Z a t)(x:List UInt8):At (Z++x) a t:=by refine⟨by simp;have:=h.1;omega,λi hi=>?_⟩;rw[<-h.2 i hi];have:=h.1;simp only[tJ,aO];rw[fF ae]
theorem amv{p q:List UInt8}(hl:p.length=q.length)(h:∀i,i<p.length->tJ p i=tJ q i):p=q:=by apply auf hl;intro i h1 h2;have:=h i h1;simp only[tJ,aO,a_ h1,a_ h2,aB]at this;exact UInt8.toNat_inj.1 this
theorem At.num{Z t:List UInt8}{a:Nat}(h:At Z a t):∀n j,j+n<=t.length->le Z (a+j) n=le t j n
 |0,_,_=>rfl
 |n+1,j,hj=>by show tJ Z (a+j)+256*le Z (a+j+1) n=tJ t j+256*le t (j+1) n;rw[h.2 j ae,dw,At.num h n (j+1) ae]
theorem At.cut{Z t:List UInt8}{a:Nat}(h:At Z a t){j n:Nat}(hn:j+n<=t.length):part Z (a+j) n=part t j n:=by
 have:=h.1;apply amv
 .rw[qF ae,qF hn]
 .intro i hi;rw[qF ae]at hi;rw[uV hi,uV hi,dw,h.2 (j+i) ae]
theorem At.Yy(t:List UInt8){j n:Nat}(hn:j+n<=t.length):At t j (part t j n):=by refine⟨by rw[qF hn];exact hn,λi hi=>?_⟩;rw[qF hn]at hi;rw[uV hi]
theorem At.trans{Z t u:List UInt8}{a b:Nat}(h:At Z a t)(k:At t b u):At Z (a+b) u:=by have h1:=h.1;have h2:=k.1;refine⟨ae,λi hi=>?_⟩;rw[dw,h.2 (b+i) ae,k.2 i hi]
theorem ak2{t:List UInt8}{j n:Nat}(hn:j+n<=t.length):le (part t j n) 0 n=le t j n:=by have h:=(At.Yy t hn).num n 0 (by rw[qF hn];omega);rw[<-h];rfl
theorem IP(c:UInt8)(l:List UInt8)(i:Nat):tJ (c::l) (i+1)=tJ l i:=by simp[tJ]
theorem ZC(c:UInt8)(l:List UInt8):∀n a,le (c::l) (a+1) n=le l a n
 |0,_=>rfl
 |n+1,a=>by show tJ (c::l) (a+1)+256*le (c::l) (a+1+1) n=tJ l a+256*le l (a+1) n;rw[IP,ZC c l n (a+1)]
theorem acE:∀n v,le (uP n v) 0 n=v%256^n
 |0,v=>by simp[le,Nat.mod_one]
 |n+1,v=>by
  show tJ (UInt8.ofNat (v%256)::uP n (v/256)) 0+256*le (UInt8.ofNat (v%256)::uP n (v/256)) (0+1) n=_;rw[ZC,acE n (v/256)]
  have:tJ (UInt8.ofNat (v%256)::uP n (v/256)) 0=v%256:=by simp[tJ]
  rw[this,iO,eX (256^n),Nat.mod_mul]
theorem acF:∀(p:List UInt8),uP p.length (le p 0 p.length)=p
 |[]=>rfl
 |c::p=>by
  have h:le (c::p) 0 (p.length+1)=c.toNat+256*le p 0 p.length:=by show tJ (c::p) 0+256*le (c::p) (0+1) p.length=_;rw[ZC];rfl
  have hc:=lY c;show UInt8.ofNat (le (c::p) 0 (p.length+1)%256)::uP p.length (le (c::p) 0 (p.length+1)/256)=_;rw[h,show(c.toNat+256*le p 0 p.length)%256=c.toNat by omega,show(c.toNat+256*le p 0 p.length)/256=le p 0 p.length by omega,acF p];simp
theorem ao5{p:List UInt8}{s:Nat}(hp:p.length=8)(hs:s<2^64):p=uP 8 s↔s=le p 0 8:=by
 constructor
 .intro h;rw[h,acE,aZ (by simpa using hs)]
 .intro h;have:=acF p;rw[hp]at this;rw[h,this]
theorem At.seal{Z t:List UInt8}{a n:Nat}(h:At Z a t)(ht:t.length=n+8):zW Z a n=if sumOf (part t 0 n)=le (part t n 8) 0 8 then none else some (6,a+n):=by
 have h1:=h.1;unfold zW;rw[ah ae,h.cut (j:=n) (n:=8) ae];have h2:=h.cut (j:=0) (n:=n) ae;rw[eY]at h2;rw[h2];have:=ao5 (p:=part t n 8) (s:=sumOf (part t 0 n)) (qF ae) (IJ _);by_cases q:part t n 8=uP 8 (sumOf (part t 0 n))
 .rw[aj q,aj (this.1 q)]
 .rw[ah q,ah (λx=>q (this.2 x))]
theorem adW{Z:List UInt8}{a n:Nat}(h:Z.length<a+n+8):zW Z a n=some (4,Z.length):=by unfold zW;rw[aj h]
theorem X_(Z:List UInt8):∀(ws:List UInt8)(a i:Nat),i<ws.length->a+i<Z.length->(∀j,j<i->tJ Z (a+j)=(ws.getD j 0).toNat)->tJ Z (a+i)≠(ws.getD i 0).toNat->CU Z a ws=some (5,a+i)
 |[],_,_,h,_,_,_=>by simp at h
 |c::ws,a,0,_,h2,_,h4=>by unfold CU;rw[ah ae,ah (by simpa using h4)];rfl
 |c::ws,a,i+1,h1,h2,h3,h4=>by
  have h0:=h3 0 ae;unfold CU;rw[ah ae,aj (by simpa using h0)];rw[X_ Z ws (a+1) i gQ ae (λj hj=>?_) ?_,show a+1+i=a+(i+1)by omega]
  .rw[show a+1+i=a+(i+1)by omega];simpa using h4
  .exact axU
theorem Ya(Z:List UInt8):∀(ws:List UInt8)(a:Nat),(∀j,j<ws.length->a+j<Z.length/\tJ Z (a+j)=(ws.getD j 0).toNat)->CU Z a ws=none
 |[],_,_=>rfl
 |c::ws,a,h=>by have h0:=h 0 ai;unfold CU;rw[ah ae,aj (by simpa using h0.2)];refine Ya Z ws (a+1) (λj hj=>?_);have:=h (j+1) jb;rw[show a+1+j=a+(j+1)by omega];exact⟨this.1,by rw[this.2];simp⟩
theorem Vh(Z:List UInt8):∀(ws:List UInt8)(a d:Nat),d<ws.length->Z.length=a+d->(∀j,j<d->tJ Z (a+j)=(ws.getD j 0).toNat)->CU Z a ws=some (4,Z.length)
 |[],_,_,h,_,_=>by simp at h
 |c::ws,a,0,_,h2,_=>by unfold CU;rw[aj ae]
 |c::ws,a,d+1,h1,h2,h3=>by have h0:=h3 0 ae;unfold CU;rw[ah ae,aj (by simpa using h0)];refine Vh Z ws (a+1) d gQ ae (λj hj=>?_);exact axU
theorem WU{l ws:List UInt8}{c:Nat}:BO l ws=some c↔c<min ws.length l.length/\(∀i,i<c->tJ l i=(ws.getD i 0).toNat)/\tJ l c≠(ws.getD c 0).toNat:=by
 unfold BO;rw[nX];constructor
 .rintro⟨h1,h2,h3⟩;exact⟨jc,λi hi=>by simpa using h3 i hi,gQ⟩
 .rintro⟨h1,h2,h3⟩;exact⟨by simpa using h3,gQ,λi hi=>by simpa using h2 i hi⟩
theorem Fp{l ws:List UInt8}:BO l ws=none↔∀i,i<min ws.length l.length->tJ l i=(ws.getD i 0).toNat:=by
 unfold BO;rw[nY];constructor
 .intro h i hi;have:=h i mV;exact aww
 .intro h i hi;have:=h i mV;exact aww
theorem At.abW{Z t ws:List UInt8}{a i:Nat}(h:At Z a t)(hb:BO t ws=some i):CU Z a ws=some (5,a+i):=by
 obtain⟨h1,h2,h3⟩:=WU.1 hb;have h4:=h.1;refine X_ Z ws a i ae ae (λj hj=>?_) ?_
 .rw[h.2 j ae];exact h2 j hj
 .rw[h.2 i ae];exact h3
theorem At.OU{Z t ws:List UInt8}{a:Nat}(h:At Z a t)(hb:BO t ws=none)(hl:ws.length<=t.length):CU Z a ws=none:=by have h1:=Fp.1 hb;have h4:=h.1;refine Ya Z ws a (λj hj=>⟨ae,?_⟩);rw[h.2 j ae];exact h1 j ae
theorem At.Yb{Z t ws:List UInt8}{a:Nat}(h:At Z a t)(hb:BO t ws=none)(hl:t.length<ws.length)(hz:Z.length=a+t.length):CU Z a ws=some (4,Z.length):=by have h1:=Fp.1 hb;refine Vh Z ws a t.length hl hz (λj hj=>?_);rw[h.2 j hj];exact h1 j ae
def vM:List (Nat×Nat×Int×Int)->Option Nat
 |[]=>none
 |(p,v,lo,hi)::r=>if(v:Int)<lo\/hi<(v:Int)then some p else vM r
theorem agJ(a b c:Option (Nat×Nat)):Ph (Ph a b) c=Ph a (Ph b c):=by cases a<;>rfl
theorem yC(p v:Nat)(lo hi:Int)(r:List (Nat×Nat×Int×Int))(ok:Bool)(h:ok=true↔lo<=(v:Int)/\(v:Int)<=hi):(vM ((p,v,lo,hi)::r)).map (λx=>(1,x))=Ph (yZ ok 1 p) ((vM r).map (λx=>(1,x))):=by
 cases ok with
 |true=>
  have:=h.1 rfl;show(if(v:Int)<lo\/hi<(v:Int)then some p else vM r).map (λx=>(1,x))=_;rw[ah ae];rfl
 |false=>
  have:¬(lo<=(v:Int)/\(v:Int)<=hi):=λx=>by have:=h.2 x;cases this
  show(if(v:Int)<lo\/hi<(v:Int)then some p else vM r).map (λx=>(1,x))=_;rw[aj ae];rfl
theorem adX(k n i z c m ln zz:Nat):TP none k n i z c m ln zz=(vM [(6,k,1,128),(7,n,(k:Int),128),(8,i,0,(n:Int)-1),(9,z,0,0),(10,c,1,65536),(14,m,4,300000),(18,ln,0,65536),(22,zz,0,0)]).map (λx=>(1,x)):=by
 rw[yC _ _ _ _ _ (decide (1<=k/\k<=128)) az,yC _ _ _ _ _ (decide (k<=n/\n<=128)) az,yC _ _ _ _ _ (decide (i<n)) az,yC _ _ _ _ _ (decide (z=0)) ai,yC _ _ _ _ _ (decide (1<=c/\c<=65536)) az,yC _ _ _ _ _ (decide (4<=m/\m<=300000)) az,yC _ _ _ _ _ (decide (ln<=65536)) az,yC _ _ _ _ _ (decide (zz=0)) ai];unfold TP;simp only[agJ];have:(Option.map (λx=>(1,x)) (vM []))=(none:Option (Nat×Nat)):=rfl;rw[this];have o:∀r:Option (Nat×Nat),Ph r none=r:=λr=>by cases r<;>rfl
 rw[o];rfl
def xw(u:List UInt8)(a:Nat)(ns:List (List UInt8))(zs:List Nat):Except Nat (List UInt8×Nat):=
 if u.length<a+6\/le u a 2<1\/255<le u a 2\/u.length<a+6+le u a 2 then .error a
 else if 0<ns.length/\uZ (part u (a+2) (le u a 2)) (ns.getD (ns.length-1) [])=true then .error (a+2)
 else if 65536<zs.sum+le u (a+2+le u a 2) 4 then .error (a+2+le u a 2)
 else .ok (part u (a+2) (le u a 2),le u (a+2+le u a 2) 4)
def yX(u:List UInt8):Nat->Nat->List (List UInt8)->List Nat->Except Nat (List (List UInt8)×List Nat)
 |0,a,ns,zs=>if a<u.length then .error a else .ok (ns,zs)
 |c+1,a,ns,zs=>match xw u a ns zs with
  | .error p=>.error p
  | .ok (nm,z)=>yX u c (a+(6+nm.length)) (ns++[nm]) (zs++[z])
def zV(u:List UInt8):Except Nat (List (List UInt8)×List Nat):=if 1000<le u 0 4 then .error 0 else yX u (le u 0 4) 4 [] []
def upE(b:Nat)(r:Except Nat (List (List UInt8)×List Nat)):Except (Nat×Nat) (List (List UInt8)×List Nat):=
 match r with
 | .error p=>.error (7,b+p)
 | .ok x=>.ok x
theorem Me{Z u:List UInt8}{m:Nat}(h:At Z 32 u)(hu:u.length=m):∀(c a:Nat)(ns:List (List UInt8))(zs:List Nat),a<=m->zs.sum<=65536->afA (32+m) (IV Z (32+m) c (32+a) ns zs)=upE 32 (yX u c a ns zs)
 |0,a,ns,zs,ha,_=>by
  unfold IV yX;simp only[afA];by_cases q:a<u.length
  .rw[aj q,ah ae];rfl
  .rw[ah q,aj ae];rfl
 |c+1,a,ns,zs,ha,hz=>by
  unfold IV yX;by_cases q0:u.length<a+6
  .have hb:xw u a ns zs=.error a:=by unfold xw;rw[aj (.inl q0)]
   rw[hb];by_cases q1:32+m<32+a+2
   .rw[aj q1];rfl
   .rw[ah q1,aj (by right;right;omega)];rfl
  .have e2:le Z (32+a) 2=le u a 2:=h.num 2 a ae;rw[ah ae,e2];by_cases q1:le u a 2<1\/255<le u a 2\/u.length<a+6+le u a 2
   .have hb:xw u a ns zs=.error a:=by unfold xw;rw[aj (.inr q1)]
    rw[hb,aj ae];rfl
   .have e3:part Z (32+a+2) (le u a 2)=part u (a+2) (le u a 2):=by rw[dw];exact h.cut ae
    have e4:le Z (32+a+2+le u a 2) 4=le u (a+2+le u a 2) 4:=by rw[show 32+a+2+le u a 2=32+(a+2+le u a 2)by omega];exact h.num 4 _ ae
    rw[ah ae,e3,e4];by_cases q2:0<ns.length/\uZ (part u (a+2) (le u a 2)) (ns.getD (ns.length-1) [])=true
    .have hb:xw u a ns zs=.error (a+2):=by unfold xw;rw[ah ae,aj q2]
     rw[hb,aj q2];simp only[afA,upE];rw[dw]
    .rw[ah q2]
     have hs:65536<CV (zs++[le u (a+2+le u a 2) 4])↔65536<zs.sum+le u (a+2+le u a 2) 4:=by unfold CV;simp only[iG,jk,mg,eY];split<;>omega
     by_cases q3:65536<zs.sum+le u (a+2+le u a 2) 4
     .have hb:xw u a ns zs=.error (a+2+le u a 2):=by unfold xw;rw[ah ae,ah q2,aj q3]
      rw[hb,aj (hs.2 q3)];simp only[afA,upE];rw[show 32+a+2+le u a 2=32+(a+2+le u a 2)by omega]
     .have hb:xw u a ns zs=.ok (part u (a+2) (le u a 2),le u (a+2+le u a 2) 4):=by unfold xw;rw[ah ae,ah q2,ah q3]
      rw[hb,ah (λx=>q3 (hs.1 x))];simp only;have hl:(part u (a+2) (le u a 2)).length=le u a 2:=qF ae;rw[show 32+a+6+le u a 2=32+(a+(6+(part u (a+2) (le u a 2)).length))by rw[hl];omega];exact Me h hu c _ _ _ m_ az
structure St where
 k:Nat
 n:Nat
 i:Nat
 c:Nat
 ns:List (List UInt8)
 zs:List Nat
 qy:List UInt8
 m:Nat
 ln:Nat
 tt:Nat
 nx:Nat
 pl:Nat
def St.sz(s:St):Nat:=yB s.nx s.c s.m s.ln s.qy.length
def yO(s:St)(t:List UInt8):Option (Nat×Nat):=
 if t.length<s.sz then some (4,s.pl+t.length)
 else if sumOf (part t 0 (t.length-8))=le (part t (t.length-8) 8) 0 8 then none else some (6,s.pl+(t.length-8))
def yY(t:List UInt8):List (Nat×Nat×Int×Int):=[(6,le t 6 1,1,128),(7,le t 7 1,(le t 6 1:Int),128),(8,le t 8 1,0,(le t 7 1:Int)-1),(9,le t 9 1,0,0),(10,le t 10 4,1,65536),(14,le t 14 4,4,300000),(18,le t 18 4,0,65536),(22,le t 22 2,0,0)]
def IK(s:St)(t:List UInt8):Except (Nat×Nat) St:=
 match BO t Ba with
 |some i=>.error (5,s.pl+i)
 |none=>match yO s t with
  |some e=>.error e
  |none=>match vM (yY t)with
   |some p=>.error (1,p)
   |none=>.ok {s with k:=le t 6 1,n:=le t 7 1,i:=le t 8 1,c:=le t 10 4,m:=le t 14 4,ln:=le t 18 4}
def TJ(s:St)(t:List UInt8):Except (Nat×Nat) St:=
 match yO s t with
 |some e=>.error e
 |none=>match zV (part t 0 (t.length-8))with
  | .error p=>.error (7,s.pl+p)
  | .ok (ns,zs)=>if s.ln=tX s.k zs.sum then .ok {s with ns:=ns,zs:=zs,tt:=zs.sum,qy:=[]}else .error (7,18)
def RQ(u:List UInt8)(F:Int):Option Nat:=(List.range u.length).find? λm=>decide (F<=(m:Int)/\tJ u m≠0)
def Ec(s:St)(t:List UInt8):Except (Nat×Nat) St:=
 match yO s t with
 |some e=>.error e
 |none=>match RQ (part t 0 (t.length-8)) (A8 s.k s.i s.tt-(s.qy.length:Int))with
  |some m=>.error (8,s.pl+m)
  |none=>.ok {s with qy:=s.qy++part t 0 (t.length-8)}
def IM(s:St)(t:List UInt8):Except (Nat×Nat) St:=
 match BO t uQ with
 |some i=>.error (5,s.pl+i)
 |none=>if t.length<s.sz then .error (4,s.pl+t.length)else .ok s
def uX(s:St)(t:List UInt8):Except (Nat×Nat) St:=
 if s.nx=0 then IK s t else if s.nx=1 then TJ s t else if s.nx=2 then Ec s t else IM s t
def xx(s:St):Nat:=if s.nx=0 then 1 else if s.nx=3 then 4 else if s.qy.length<s.ln then 2 else 3
def sV(s:St)(t:List UInt8):St:={s with pl:=s.pl+t.length,nx:=xx s}
structure Head(s:St)(Z:List UInt8):Prop where
 ok:FW Z=none
 k:s.k=le Z 6 1
 n:s.n=le Z 7 1
 i:s.i=le Z 8 1
 c:s.c=le Z 10 4
 m:s.m=le Z 14 4
 ln:s.ln=le Z 18 4
structure Man(s:St)(Z:List UInt8):Prop where
 head:Head s Z
 names:Ed Z s.m=.ok (s.ns,s.zs)
 long:s.ln=DZ s.k s.zs
 tt:s.tt=s.zs.sum
 small:s.zs.sum<=65536
def SB(s:St)(Z:List UInt8)(f a:Nat)(qy:List UInt8):Except (Nat×Nat) (List UInt8×Nat):=
 yH Z (decide (s.i<s.k)) s.c s.ln ((CV s.zs:Int)-((s.i*DZ s.k s.zs:Nat):Int)) f a qy
inductive Good (s:St) (Z:List UInt8):Prop
 |head (h0:s.nx=0) (h1:s.pl=0) (h2:s.qy=[])
 |NJ (h0:s.nx=1) (h1:s.pl=32) (h2:s.qy=[]) (hh:Head s Z)
 |frame (h0:s.nx=2) (hm:Man s Z) (h1:s.qy.length<s.ln) (f:Nat) (hf:s.ln<=f+s.qy.length) (he:SB s Z s.ln (32+s.m+8) []=SB s Z f s.pl s.qy)
 |tail (h0:s.nx=3) (hm:Man s Z) (h1:s.ln=s.qy.length) (he:SB s Z s.ln (32+s.m+8) []=.ok (s.qy,s.pl))
 |done (h0:s.nx=4) (hm:Man s Z) (h1:s.ln=s.qy.length) (a:Nat) (ha:s.pl=a+4) (he:SB s Z s.ln (32+s.m+8) []=.ok (s.qy,a)) (hx:CU Z a uQ=none)
theorem WV{Z:List UInt8}{e:Nat×Nat}(h:FW Z=some e):qP Z=.error e:=by unfold qP;rw[h]
theorem JJ{s:St}{Z:List UInt8}{e:Nat×Nat}(h:Head s Z)(hn:Ed Z s.m=.error e):qP Z=.error e:=by unfold qP;rw[h.ok];simp only;rw[<-h.m,hn]
theorem WW{s:St}{Z:List UInt8}{ns:List (List UInt8)}{zs:List Nat}(h:Head s Z)(hn:Ed Z s.m=.ok (ns,zs))(hl:¬s.ln=DZ s.k zs):qP Z=.error (7,18):=by unfold qP;rw[h.ok];simp only;rw[<-h.m,hn];simp only;rw[<-h.ln,<-h.k,ah hl]
theorem Io{s:St}{Z:List UInt8}{e:Nat×Nat}(h:Man s Z)(hf:SB s Z s.ln (32+s.m+8) []=.error e):qP Z=.error e:=by have hh:=h.head;unfold qP;rw[hh.ok];simp only;rw[<-hh.m,h.names];simp only;rw[<-hh.ln,<-hh.k,aj h.long];unfold SB at hf;rw[<-hh.i,<-hh.c,hf]
theorem FO{s:St}{Z:List UInt8}{e:Nat×Nat}{qy:List UInt8}{a:Nat}(h:Man s Z)(hf:SB s Z s.ln (32+s.m+8) []=.ok (qy,a))(ht:Ph (CU Z a uQ) (yZ (decide (Z.length<=a+4)) 9 (a+4))=some e):qP Z=.error e:=by have hh:=h.head;unfold qP;rw[hh.ok];simp only;rw[<-hh.m,h.names];simp only;rw[<-hh.ln,<-hh.k,aj h.long];unfold SB at hf;rw[<-hh.i,<-hh.c,hf];simp only;rw[ht]
theorem ZE{s:St}{Z:List UInt8}{qy:List UInt8}{a:Nat}(h:Man s Z)(hf:SB s Z s.ln (32+s.m+8) []=.ok (qy,a))(ht:Ph (CU Z a uQ) (yZ (decide (Z.length<=a+4)) 9 (a+4))=none):qP Z=.ok ⟨s.k,s.n,s.i,s.c,s.ns,s.zs,qy⟩:=by have hh:=h.head;unfold qP;rw[hh.ok];simp only;rw[<-hh.m,h.names];simp only;rw[<-hh.ln,<-hh.k,aj h.long];unfold SB at hf;rw[<-hh.i,<-hh.c,hf];simp only;rw[ht,<-hh.n]
theorem Qn{s:St}{Z t:List UInt8}{q:Nat}(hA:At Z s.pl t)(hz:s.sz=q+8)(ht:t.length<=s.sz){r:Option (Nat×Nat)}(h:yO s t=r)(h4:∀p,r=some (4,p)->Z.length=s.pl+t.length):zW Z s.pl q=r/\(r=none->t.length=q+8):=by
 unfold yO at h;by_cases q0:t.length<s.sz
 .rw[aj q0]at h;have:=h4 _ h.symm;refine⟨?_,λe=>by rw[e]at h;cases h⟩;rw[adW ae,<-h,this]
 .rw[ah q0]at h;have hl:t.length=q+8:=ae;refine⟨?_,λ_=>hl⟩;rw[hA.seal hl,<-h,hl,gz]
theorem sz0{s:St}(h:s.nx=0):s.sz=24+8:=by unfold St.sz yB;rw[aj h]
theorem sz1{s:St}(h:s.nx=1):s.sz=s.m+8:=by unfold St.sz yB;rw[ah ae,aj h]
theorem sz2{s:St}(h:s.nx=2):s.sz=min s.c (s.ln-s.qy.length)+8:=by unfold St.sz yB;rw[ah ae,ah ae,aj h]
theorem sz3{s:St}(h:s.nx=3):s.sz=4:=by unfold St.sz yB;rw[ah ae,ah ae,ah ae]
theorem agK{t:List UInt8}{Z:List UInt8}{a n:Nat}{ws:List UInt8}(hA:At Z a t)(hb:BO t ws=none)(hs:zW Z a n=some (4,Z.length))(hz:Z.length=a+t.length):Ph (CU Z a ws) (zW Z a n)=some (4,Z.length):=by
 by_cases q:t.length<ws.length
 .rw[hA.Yb hb q hz];rfl
 .rw[hA.OU hb ae];exact hs
theorem ajO{s:St}{Z t:List UInt8}(h0:s.nx=0)(h1:s.pl=0)(h2:s.qy=[])(hA:At Z s.pl t)(ht:t.length<=s.sz):
  (∀e,IK s t=.error e->(e.1=4->Z.length=s.pl+t.length)->FW Z=some e)/\(∀s',IK s t=.ok s'->t.length=32/\Head s' Z/\s'.qy=[]/\s'.nx=0/\s'.pl=0):=by
 have hz:=sz0 h0;unfold IK;cases hb:BO t Ba with
 |some i=>
  refine⟨λe he _=>?_,λs' he=>jF⟩;cases he;unfold FW;rw[h1]at hA;rw[hA.abW hb,h1];rfl
 |none=>
  simp only;cases hs:yO s t with
  |some x=>
   refine⟨λe he h4=>?_,λs' he=>jF⟩;cases he;obtain⟨h5,_⟩:=Qn hA hz ht hs (λp hp=>ava);rw[h1]at hA h5;unfold FW;by_cases q:t.length<32
   .have hx:x=(4,s.pl+t.length):=by unfold yO at hs;rw[aj ae]at hs;cases hs;rfl
    have hZ:=h4 (by rw[hx]);rw[h1,aT]at hZ;rw[agK hA hb (by rw[h5,hx,hZ,h1,aT]) ae];rw[hx,hZ,h1,aT]
   .rw[hA.OU hb (by simp[Ba];omega)];simp only[Ph];rw[h5]
  |none=>
   obtain⟨h5,h6⟩:=Qn hA hz ht hs (λp hp=>by cases hp);have hl:=h6 rfl;rw[h1]at hA h5;have hN:∀j n,j+n<=32->le Z j n=le t j n:=λj n hj=>by have:=hA.num n j ae;rw[aT]at this;exact this
   have hH:FW Z=(vM (yY t)).map (λx=>(1,x)):=by unfold FW;rw[hA.OU hb (by simp[Ba];omega)];simp only[Ph];rw[h5];simp only;rw[adX,hN 6 1 ae,hN 7 1 ae,hN 8 1 ae,hN 9 1 ae,hN 10 4 ae,hN 14 4 ae,hN 18 4 ae,hN 22 2 ae];rfl
   simp only;cases hn:vM (yY t)with
   |some p=>
    refine⟨λe he _=>?_,λs' he=>jF⟩;cases he;rw[hH,hn];rfl
   |none=>
    refine⟨λe he=>jF,λs' he=>?_⟩;cases he;exact⟨hl,⟨by rw[hH,hn];rfl,(hN 6 1 ae).symm,(hN 7 1 ae).symm,(hN 8 1 ae).symm,(hN 10 4 ae).symm,(hN 14 4 ae).symm,(hN 18 4 ae).symm⟩,h2,h0,h1⟩
theorem y8{k:Nat}{zs:List Nat}(h:zs.sum<=65536):DZ k zs=tX k zs.sum:=by unfold DZ tX CV;rw[aj h]
theorem JW(u:List UInt8):∀(c a:Nat)(ns:List (List UInt8))(zs:List Nat){ns':List (List UInt8)}{zs':List Nat},zs.sum<=65536->yX u c a ns zs=.ok (ns',zs')->zs'.sum<=65536
 |0,a,ns,zs,ns',zs',hz,h=>by
  unfold yX at h;split at h
  .cases h
  .cases h;exact hz
 |c+1,a,ns,zs,ns',zs',hz,h=>by
  unfold yX at h;cases hb:xw u a ns zs with
  |error p=>rw[hb]at h;cases h
  |ok x=>
   obtain⟨nm,z⟩:=x;rw[hb]at h;refine JW u c _ _ _ ?_ h;unfold xw at hb;split at hb
   .cases hb
   .split at hb
    .cases hb
    .split at hb
     .cases hb
     .cases hb;simp;omega
theorem am9{s:St}{Z t:List UInt8}(h0:s.nx=1)(h1:s.pl=32)(hh:Head s Z)(hA:At Z s.pl t)(ht:t.length<=s.sz):
  (∀e,TJ s t=.error e->(e.1=4->Z.length=s.pl+t.length)->qP Z=.error e)/\(∀s',TJ s t=.ok s'->t.length=s.m+8/\Man s' Z/\s'.qy=[]/\s'.nx=1/\s'.pl=32/\s'.m=s.m):=by
 have hz:=sz1 h0;have hr:=hh.ok
 have hb:4<=s.m:=by
  have h2:=hh.ok;unfold FW at h2;split at h2
  .cases h2
  .have:=Md h2;rw[hh.m];omega
 unfold TJ;cases hs:yO s t with
 |some x=>
  refine⟨λe he h4=>?_,λs' he=>jF⟩;cases he;obtain⟨h5,_⟩:=Qn hA hz ht hs (λp hp=>ava);rw[h1]at h5;exact JJ hh (by unfold Ed;rw[h5])
 |none=>
  obtain⟨h5,h6⟩:=Qn hA hz ht hs (λp hp=>by cases hp);have hl:=h6 rfl;have Nv:=hA;rw[h1]at hA h5;simp only;rw[hl,gz];have hU:At Z 32 (part t 0 s.m):=by have:=hA.trans (At.Yy t (j:=0) (n:=s.m) ae);exact this
  have hUl:(part t 0 s.m).length=s.m:=qF ae
  have Yt:Ed Z s.m=upE 32 (zV (part t 0 s.m)):=by
   unfold Ed zV;rw[h5];simp only;have e4:le Z 32 4=le (part t 0 s.m) 0 4:=hU.num 4 0 ae;rw[e4];by_cases q:1000<le (part t 0 s.m) 0 4
   .rw[aj q,aj q];rfl
   .rw[ah q,ah q];exact Me hU hUl _ 4 [] [] ae ai
  cases hL:zV (part t 0 s.m)with
  |error p=>
   refine⟨λe he _=>?_,λs' he=>jF⟩;cases he;refine JJ hh ?_;rw[Yt,hL,h1];rfl
  |ok x=>
   obtain⟨ns,zs⟩:=x;simp only
   have hsm:zs.sum<=65536:=by
    unfold zV at hL;split at hL
    .cases hL
    .exact JW _ _ _ _ _ ai hL
   have aqS:Ed Z s.m=.ok (ns,zs):=by rw[Yt,hL];rfl
   by_cases q:s.ln=tX s.k zs.sum
   .rw[aj q];refine⟨λe he=>jF,λs' he=>?_⟩;cases he;exact⟨trivial,⟨⟨hh.ok,hh.k,hh.n,hh.i,hh.c,hh.m,hh.ln⟩,aqS,by rw[y8 hsm];exact q,rfl,hsm⟩,rfl,h0,h1,rfl⟩
   .rw[ah q];refine⟨λe he _=>?_,λs' he=>jF⟩;cases he;exact WW hh aqS (by rw[y8 hsm];exact q)
