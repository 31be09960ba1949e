import Derived.Test.YtnbflnamlpodcaaGreatDoorPrC
set_option maxHeartbeats 4000000
set_option maxRecDepth 100000
namespace Go.Proofs.Y
open Go.RowKit Go.Deep
structure O4(w:World)(bo:Option Addr)(n:Nat)(sh:Nat->vH)(vN vS vC:Nat->Value):Prop where
 cells:SC w bo n (λi=>QY (sh i) (vN i) (vS i) (vC i))
 nm:∀i,i<n->Lies w (vN i) (uV (sh i).names)/\(sh i).names.length<=1048576
 sz:∀i,i<n->Lies w (vS i) (yh (sh i).sizes)/\(sh i).sizes.length<=1048576
 cl:∀i,i<n->Lies w (vC i) (rF (sh i).qx)
 kn:∀i,i<n->(sh i).k<=1048576
theorem Lies.one{w:World}{v:Value}{xs:List Value}(h:Lies w v xs):v.oneCell'=true:=by obtain⟨ba,cap,rfl,_⟩:=h;rfl
theorem Lies.ZL{w w':World}{v:Value}{xs:List Value}{B:Nat}(h:Lies w v xs)(hb:Below B w w')(hB:w.heap.size<=B):Lies w' v xs:=h.below (hb.mono hB)
theorem O4.below{w w':World}{bo:Option Addr}{n B:Nat}{sh:Nat->vH}{vN vS vC:Nat->Value}(h:O4 w bo n sh vN vS vC)(hb:Below B w w')(hB:w.heap.size<=B):O4 w' bo n sh vN vS vC:=
 ⟨h.cells.below hb hB,λi hi=>⟨(h.nm i hi).1.ZL hb hB,(h.nm i hi).2⟩,λi hi=>⟨(h.sz i hi).1.ZL hb hB,(h.sz i hi).2⟩,λi hi=>(h.cl i hi).ZL hb hB,h.kn⟩
def Ak(n:Nat)(sh:Nat->vH):Prop:=∀i,i<n->Oc (sh 0) (sh i)=true
def Dup(n:Nat)(sh:Nat->vH):Prop:=∃t,t+1<n/\(sh (t+1)).i=(sh t).i
def Dy(n:Nat)(sh:Nat->vH)(e:Nat):Prop:=(e=10/\¬Ak n sh)\/(e=11/\Ak n sh/\Dup n sh)\/(e=12/\Ak n sh/\¬Dup n sh/\(n=0\/n<(sh 0).k))\/(e=0/\Ak n sh/\¬Dup n sh/\0<n/\(sh 0).k<=n)
def ahY(n:Nat)(sh:Nat->vH)(w:World)(r:Ending)(w':World):Prop:=Below w.heap.size w w'/\∃e v,Dy n sh e/\r=.returned v/\(e=0->v=.nilIface)/\(e≠0->∃p,Chain w' 0 v e p)
theorem KG(n cap:Nat)(bo:Option Addr)(sh:Nat->vH)(vN vS vC:Nat->Value)(w:World)(hn:n<=1048576)(H:O4 w bo n sh vN vS vC):
  Calls Tryz.prog 36 #[.slice bo n cap] w λr w'=>ahY n sh w r w':=by
 go_enter Tryz.func36,Tryz.ntmps36;go_wp2
 go_loopw [3,4,8] (λ_ _ vi wr=>∃j:Nat,j<=n/\vi=.int .i64 (j:Int)/\Below w.heap.size w wr/\Ak j sh) (λ_ _ vi _=>n-(intOf vi).toNat)
 case atStart=>exact⟨0,ae,rfl,aA _ _,λi hi=>absurd hi ae⟩
 case round=>
  obtain⟨j,hj,rfl,hb,hall⟩:=hrel;have Hr:=H.below hb (ak _);by_cases hlt:j<n
  .have hlt':(j:Int)<(n:Int):=ae;have h0n:(0:Int)<(n:Int):=ae;obtain⟨b,o,rfl,hbl,hcell⟩:=Hr.cells ae;have rj:=hcell j hlt;have r0:=hcell 0 ae;have tN:=wK _ (Hr.nm j hlt).1.one;have tS:=wK _ (Hr.sz j hlt).1.one;have tC:=wK _ (Hr.cl j hlt).one;unfold QY at rj r0;obtain⟨p0,p1,p2,p3,p4,p5,p6⟩:=LJ rj;obtain⟨q0,q1,q2,q3,q4,q5,q6⟩:=LJ r0;simp only[fF,fG]at q0 q1 q2 q3 q4 q5 q6;have b1:Below wr.heap.size wr (wr.alloc (.cells (QY (sh j) (vN j) (vS j) (vC j)).toArray 55)):=(aA _ _).alloc (ak _) _;have cn:=Bo wr (QY (sh j) (vN j) (vS j) (vC j)) 55;have H1:=Hr.below b1.drew (ak _);have k1:=acM (sh 0) (sh j) (vN 0) (vS 0) (vC 0) (vN j) (vS j) (vC j) _ (H1.nm 0 ae).1 (H1.sz 0 ae).1 (H1.nm j hlt).1 (H1.sz j hlt).1 (H1.nm 0 ae).2 (H1.sz 0 ae).2;have q':∀{x:Nat}{u:Value},wr.cell? ⟨b,x,none⟩=some u->(wr.alloc (.cells (QY (sh j) (vN j) (vS j) (vC j)).toArray 55)).cell? ⟨b,x,none⟩=some u:=λ{x u} h=>(b1.cell (p:=⟨b,x,none⟩) hbl).trans h;replace q0:=q' q0;replace q1:=q' q1;replace q2:=q' q2;replace q3:=q' q3;replace q4:=q' q4;replace q5:=q' q5;replace q6:=q' q6;have c0:=cn 0;have c1:=cn 1;have c2:=cn 2;have c3:=cn 3;have c4:=cn 4;have c5:=cn 5;have c6:=cn 6;have b2:=hb.trans (b1.mono hb.size);simp only[QY,iL,iM]at c0 c1 c2 c3 c4 c5 c6 k1 q0 q1 q2 q3 q4 q5 q6 b2;clear H1 cn q' r0 rj hcell b1
   go_wp2_with fail
   generalize hw1:wr.alloc (.cells #[.int .i64 ((sh j).k:Int),.int .i64 ((sh j).n:Int),.int .i64 ((sh j).i:Int),.int .i64 ((sh j).c:Int),vN j,vS j,vC j] 55)=w1 at*;clear hw1 p0 p1 p2 p3 p4 p5 p6 tN tS tC;rcases ho:Oc (sh 0) (sh j)with _|_
   .rw[ho]at k1
    go_region_with (first|(go_at_call 63;(with_reducible refine k1.mono ?_);rintro r w2 ⟨rfl,hb2⟩))
    all_goals
     go_wp2_with(first|(go_at_call 64;refine(yS _ _ 10 j ax ai _).mono ?_;rintro q w3 ⟨v,rfl,h1,h2⟩))
     go_ret;exact⟨(b2.drew.trans (hb2.mono b2.size)).trans (h2.mono (aK b2.size hb2.size)),10,v,.inl ⟨rfl,λhA=>by have:=hA j hlt;rw[ho]at this;cases this⟩,rfl,λh=>absurd h au,λ_=>⟨j,h1⟩⟩
   .rw[ho]at k1
    go_region_with (first|(go_at_call 63;(with_reducible refine k1.mono ?_);rintro r w2 ⟨rfl,hb2⟩))
    all_goals
     go_wp2
     go_roundw
     case rel=>exact⟨j+1,ae,aV,b2.drew.trans (hb2.mono b2.size),λi hi=>by
      by_cases e:i=j
      .rw[e];exact ho
      .exact hall i ae⟩
     case measure=>simp[intOf];omega
  .obtain rfl:j=n:=ae;have hnl:¬((j:Int)<(j:Int)):=ae;go_wp2
   go_loopw [5] (λvt w2=>∃x:Nat,(x+1<=j\/x=0)/\vt=.int .i64 ((x:Int)+1)/\Below w.heap.size w w2/\∀y,y<x->(sh (y+1)).i≠(sh y).i) (λvt _=>j+1-(intOf vt).toNat)
   case atStart=>exact⟨0,.inr rfl,rfl,hb,λy hy=>absurd hy ae⟩
   case round=>
    clear hb Hr;obtain⟨x,hx,rfl,hb,hdup⟩:=hrel;have Hr:=H.below hb (ak _);by_cases hlt:x+1<j
    .have hlt1:(x:Int)+1<(j:Int):=ae;have hlt0:(x:Int)<(j:Int):=ae;have ed:((x:Int)+1)-1=(x:Int):=ae;obtain⟨b,o,rfl,hbl,hcell⟩:=Hr.cells ae;have c1:=hcell (x+1) hlt 2 _ rfl;have c0:=hcell x ae 2 _ rfl;clear hcell;rcases he:(((sh (x+1)).i:Int)==((sh x).i:Int))with _|_
     .go_wp2_with fail
      go_region;go_wp2
      go_roundw
      case rel=>exact⟨x+1,.inl ae,aV,hb.drew,λy hy=>by
       by_cases e:y=x
       .rw[e];intro h;rw[h]at he;simp at he
       .exact hdup y ae⟩
      case measure=>simp[intOf];omega
     .go_wp2_with fail
      go_region
      go_wp2_with(first|(go_at_call 64;refine(yS 11 ((x:Int)+1) 11 (x+1) rfl ae _).mono ?_;rintro q w3 ⟨v,rfl,h1,h2⟩))
      go_ret;exact⟨hb.drew.trans (h2.mono hb.size),11,v,.inr (.inl ⟨rfl,hall,x,hlt,by have:=eq_of_beq he;omega⟩),rfl,λh=>absurd h au,λ_=>⟨_,h1⟩⟩
    .have hnl:¬((x:Int)+1<(j:Int)):=ae;have hnd:¬Dup j sh:=λ⟨t,ht,e⟩=>hdup t ae e;rcases eG j with h0|h0
     .subst h0
      go_wp2_with(first|(go_at_call 64;refine(yS _ _ 12 0 ax ax _).mono ?_;rintro q w3 ⟨v,rfl,h1,h2⟩))
      go_ret;exact⟨hb.trans (h2.mono hb.size),12,v,.inr (.inr (.inl ⟨rfl,hall,hnd,.inl rfl⟩)),rfl,λh=>absurd h au,λ_=>⟨_,h1⟩⟩
     .have he:((j:Int)==0)=false:=az;have h0n:(0:Int)<(j:Int):=ae;obtain⟨b,o,rfl,hbl,hcell⟩:=Hr.cells h0;have c0:=hcell 0 h0 0 _ rfl;simp only[fF,fG]at c0;clear hcell;by_cases hk:(j:Int)<((sh 0).k:Int)
      .go_wp2_with(first|(go_at_call 64;refine(yS _ _ 12 j ax ai _).mono ?_;rintro q w3 ⟨v,rfl,h1,h2⟩))
       go_ret;exact⟨hb.trans (h2.mono hb.size),12,v,.inr (.inr (.inl ⟨rfl,hall,hnd,.inr ae⟩)),rfl,λh=>absurd h au,λ_=>⟨_,h1⟩⟩
      .go_wp2;go_ret;exact⟨hb,0,_,.inr (.inr (.inr ⟨rfl,hall,hnd,h0,ae⟩)),rfl,λ_=>rfl,λh=>absurd rfl h⟩
def IK(z pl:Nat)(t:List UInt8):Option (Nat×Nat):=
 if t.length<z then some (4,pl+t.length)
 else if sumOf (part t 0 (t.length-8))=le (part t (t.length-8) 8) 0 8 then none else some (6,pl+(t.length-8))
def xZ(w:World)(x:Option (Nat×Nat))(bt:Option Addr)(tl ct:Nat)(q:Ending)(w':World):Prop:=
 match x with
 |some e=>∃v,q=.returned (.tuple #[.slice none 0 0,v])/\Chain w' 0 v e.1 e.2/\Below w.heap.size w w'
 |none=>q=.returned (.tuple #[.slice bt (tl-8) ct,.nilIface])/\∃j,w'=w.drewN j
section
variable (rb:Nat)(r:Rd)(bc:Option Addr)(cl cc:Nat)(hC:r.vC=.slice bc cl cc)(hm:r.m<=1000000)(hc:r.c<=1000000)(hl:r.ln<=1000000)(hcl:cl<=r.ln)(hnx:r.nx<=2)(t:List UInt8)(bt:Option Addr)(ct:Nat)(hT:r.vT=.slice bt t.length ct)(htl:t.length<=1000000000)(hpl:r.pl<=1000000000000)(w:World)(h:wH w rb r)(hL:Lies w r.vT (rF t))(tY:Tab w)
include hC hm hc hl hcl hnx hT htl hpl h hL tY in
theorem GV:
  Calls Tryz.prog 135 #[.pointer (some ⟨rb,0,none⟩)] w λq w'=>xZ w (IK (wY r.nx r.c r.m r.ln cl) r.pl t) bt t.length ct q w':=by
 have hz8:8<=wY r.nx r.c r.m r.ln cl:=by
  unfold wY;split
  .omega
  .split
   .omega
   .split
    .omega
    .omega
 have KY:=Ue rb r bc cl cc hC hm hc hl hcl ae bt t.length ct hT w h;have KN:=X8 rb r bc cl cc hC hm hc hl hcl ae bt t.length ct hT htl hpl w h;obtain⟨z,ez⟩:∃z,wY r.nx r.c r.m r.ln cl=z:=⟨_,rfl⟩;simp only[ez]at KY KN hz8⊢;have c12:w.cell? ⟨rb,12,none⟩=some (.slice bt t.length ct):=aoJ;have c11:w.cell? ⟨rb,11,none⟩=some (.int .i64 (r.pl:Int)):=qf.cell h rfl;obtain⟨pl,R_⟩:∃pl,r.pl=pl:=⟨_,rfl⟩;rw[R_]at c11 hpl KN⊢;rcases aT t.length z with q|q
 .have HP:Hid (IK z pl t=some (4,pl+t.length)):=aj q;have K:=KN q;clear KY KN h hC hT hL;go_enter Tryz.func135,Tryz.ntmps135
  go_wp2_with(first|(go_at_call 140;refine K.mono ?_;rintro q w2 ⟨v,rfl,g1,g2⟩;obtain⟨ty,x,rfl⟩:=g1.iface))
  go_ret2;unfold xZ;rw[HP.out];exact⟨_,rfl,g1,g2⟩
 .have K:=KY q
  obtain⟨b,off,eb,hby⟩:∃b off,bt=some ⟨b,off,none⟩/\Ag w b off t:=by obtain⟨ba,cap,e1,e2,e3⟩:=hL;rw[hT,rH]at e1;cases e1;obtain⟨b,off,e4,_⟩:=e3 0 _ (vJ ae);refine⟨b,off,e4,λi hi=>?_⟩;obtain⟨b',off',e5,e6⟩:=e3 i _ (vJ hi);rw[e4]at e5;cases e5;exact e6
  subst eb;obtain⟨en,een⟩:∃en,t.length=en+8:=⟨t.length-8,ae⟩
  have hcap:t.length<=ct:=by obtain⟨ba,cap,e1,e2,e3⟩:=hL;rw[hT,rH]at e1;cases e1;rw[rH]at e2;exact e2
  have hB1:Ag w b off (part t 0 en):=by have:=hby.part (a:=0) (n:=en) ae;exact this
  have hB2:Ag w b (off+en) (part t en 8):=hby.part ae;have e1:(part t 0 en).length=en:=qE ae;have e2:(part t en 8).length=8:=qE ae;have K1:=λn cap=>TD b off cap (part t 0 en) ae (w.drewN n) hB1 (tY.heap rfl)
  have K2:=λn cap=>vG b (off+en) 8 cap (part t en 8) e2 ae (w.drewN n) hB2
  rw[e1]at K1
  have hS:IK z pl t=if sumOf (part t 0 en)=le (part t en 8) 0 8 then none else some (6,pl+en):=by unfold IK;rw[ah ae,een,f_]
  have hs1:=Jr (part t 0 en);have hs2:le (part t en 8) 0 8<2^64:=by have:=NY (part t en 8) 8 0;simpa using this
  obtain⟨s1,es1⟩:∃s1,sumOf (part t 0 en)=s1:=⟨_,rfl⟩;obtain⟨s2,es2⟩:∃s2,le (part t en 8) 0 8=s2:=⟨_,rfl⟩;rw[es1,es2]at hS;simp only[es1]at K1 hs1;simp only[es2]at K2 hs2;have HS:Hid (IK z pl t=if s1=s2 then none else some (6,pl+en)):=hS;rw[een]at c12 hcap htl⊢;clear KY KN h hC hT hL hS es1 es2 e1 e2 hB1 hB2 hby een;by_cases qs:s1=s2
  .have HP:Hid (IK z pl t=none):=by rw[HS.out,aj qs];exact rfl
   subst qs;clear HS;go_enter Tryz.func135,Tryz.ntmps135
   go_wp2_with(first|(go_at_call 140;refine K.mono ?_;rintro q w2 ⟨rfl,j,hw2⟩;obtain rfl:=hw2.symm))
   go_big_quiet (first|(go_at_call 76;exact(K1 _ _).mono (λ_ _ h=>⟨h.1,_,h.2⟩))|(go_at_call 141;exact(K2 _ _).mono (λ_ _ h=>⟨h.1,_,h.2⟩)))
   go_wp2;go_ret2;unfold xZ;rw[HP.out];exact⟨rfl,_,rfl⟩
  .have HP:Hid (IK z pl t=some (6,pl+en)):=by rw[HS.out,ah qs];exact rfl
   have q':((s1:Int)==(s2:Int))=false:=az;have q2:((s1:Int) != (s2:Int))=true:=az;have hwr:IntKind.i64.wrap ((pl:Int)+(en:Int))=(pl:Int)+(en:Int):=dQ _ ae;clear HS;go_enter Tryz.func135,Tryz.ntmps135
   go_wp2_with(first|(go_at_call 140;refine K.mono ?_;rintro q w2 ⟨rfl,j,hw2⟩;obtain rfl:=hw2.symm))
   go_big_quiet (first|(go_at_call 76;exact(K1 _ _).mono (λ_ _ h=>⟨h.1,_,h.2⟩))|(go_at_call 141;exact(K2 _ _).mono (λ_ _ h=>⟨h.1,_,h.2⟩)))
   go_wp2_with(first|(go_at_call 64;refine(yS _ _ 6 (pl+en) ax ai _).mono ?_;rintro q w2 ⟨v,rfl,g1,g2⟩))
   go_ret2;unfold xZ;rw[HP.out];exact⟨_,rfl,g1,⟨g2.os,g2.tape,g2.output,g2.size,g2.block⟩⟩
end
theorem KH{P:Program}{o:Oper}{a:Act}{w:World}{K K':Act->Prop}(hk:∀a,K a->K' a)(h:o.quiet P a (λw'=>w'=w) K):o.still P a w K':=by
 obtain⟨v,h1,h2⟩:=h;have h3:=h1 w rfl;unfold Oper.quietAt at h3;unfold Oper.still;generalize(execOp a.eval o).run P w=R at h3;unfold Oper.quietUpon at h3;unfold Oper.stillUpon;split at h3
 .exact⟨h3.1,by rw[h3.2];exact hk _ h2⟩
 .exact⟨h3.1,by rw[<-h3.2];exact hk _ h2⟩
 .exact⟨h3.1,v,h3.2,hk _ h2⟩
 .exact h3.elim
theorem BQ{P:Program}{ops:Array Oper}{w:World}{Q:Act->Prop}:∀(l:List Oper)(a:Act),wpQuiet P ops (λw'=>w'=w) Q l a->wpStill P ops w Q l a
 |[],_,h=>h
 |o::rest,a,h=>by
  unfold wpQuiet at h;unfold wpStill;split
  .rename_i hw;rw[aj hw]at h;exact KH (λa'=>BQ rest a') h
  .rename_i hw;rw[ah hw]at h;exact BQ rest _ h
theorem Ae{P:Program}{id:Nat}{Q:Exit->Act->World->Prop}{a:Act}{w:World}{l:List Oper}(n:Nat)(hm:P.follows .mixedOrders=true)(hB:Region.lexTailB .any l.toArray n=true)
  (h:wpQuiet P l.toArray (λw'=>w'=w.drew) (λa'=>wpList P l.toArray Q (l.drop n) a' w.drew) (l.take n) a):(Code.region id l.toArray true).wp P Q a w:=
 GX n hm hB (BQ _ _ h)
end Go.Proofs.Y
namespace Go.Proofs.Y
def At(Z:List UInt8)(a:Nat)(t:List UInt8):Prop:=a+t.length<=Z.length/\∀i,i<t.length->sH Z (a+i)=sH t i
theorem At.more{Z t:List UInt8}{a:Nat}(h:At Z a t)(x:List UInt8):At (Z++x) a t:=by refine⟨by simp;have:=h.1;omega,λi hi=>?_⟩;rw[<-h.2 i hi];have:=h.1;simp only[sH,aO];rw[eY ae]
theorem ahZ{p q:List UInt8}(hl:p.length=q.length)(h:∀i,i<p.length->sH p i=sH q i):p=q:=by apply anU hl;intro i h1 h2;have:=h i h1;simp only[sH,aO,aY h1,aY h2,aB]at this;exact UInt8.toNat_inj.1 this
theorem At.num{Z t:List UInt8}{a:Nat}(h:At Z a t):∀n j,j+n<=t.length->le Z (a+j) n=le t j n
 |0,_,_=>rfl
 |n+1,j,hj=>by show sH Z (a+j)+256*le Z (a+j+1) n=sH t j+256*le t (j+1) n;rw[h.2 j ae,dB,At.num h n (j+1) ae]
theorem At.cut{Z t:List UInt8}{a:Nat}(h:At Z a t){j n:Nat}(hn:j+n<=t.length):part Z (a+j) n=part t j n:=by
 have:=h.1;apply ahZ
 .rw[qE ae,qE hn]
 .intro i hi;rw[qE ae]at hi;rw[uh hi,uh hi,dB,h.2 (j+i) ae]
theorem At.Uz(t:List UInt8){j n:Nat}(hn:j+n<=t.length):At t j (part t j n):=by refine⟨by rw[qE hn];exact hn,λi hi=>?_⟩;rw[qE hn]at hi;rw[uh hi]
theorem At.trans{Z t u:List UInt8}{a b:Nat}(h:At Z a t)(k:At t b u):At Z (a+b) u:=by have h1:=h.1;have h2:=k.1;refine⟨ae,λi hi=>?_⟩;rw[dB,h.2 (b+i) ae,k.2 i hi]
theorem agK{t:List UInt8}{j n:Nat}(hn:j+n<=t.length):le (part t j n) 0 n=le t j n:=by have h:=(At.Uz t hn).num n 0 (by rw[qE hn];omega);rw[<-h];rfl
theorem FI(c:UInt8)(l:List UInt8)(i:Nat):sH (c::l) (i+1)=sH l i:=by simp[sH]
theorem VD(c:UInt8)(l:List UInt8):∀n a,le (c::l) (a+1) n=le l a n
 |0,_=>rfl
 |n+1,a=>by show sH (c::l) (a+1)+256*le (c::l) (a+1+1) n=sH l a+256*le l (a+1) n;rw[FI,VD c l n (a+1)]
theorem YK:∀n v,le (leB n v) 0 n=v%256^n
 |0,v=>by simp[le,Nat.mod_one]
 |n+1,v=>by
  show sH (UInt8.ofNat (v%256)::leB n (v/256)) 0+256*le (UInt8.ofNat (v%256)::leB n (v/256)) (0+1) n=_;rw[VD,YK n (v/256)]
  have:sH (UInt8.ofNat (v%256)::leB n (v/256)) 0=v%256:=by simp[sH]
  rw[this,jE,fZ (256^n),Nat.mod_mul]
theorem YM:∀(p:List UInt8),leB p.length (le p 0 p.length)=p
 |[]=>rfl
 |c::p=>by
  have h:le (c::p) 0 (p.length+1)=c.toNat+256*le p 0 p.length:=by show sH (c::p) 0+256*le (c::p) (0+1) p.length=_;rw[VD];rfl
  have hc:=lM c;show UInt8.ofNat (le (c::p) 0 (p.length+1)%256)::leB p.length (le (c::p) 0 (p.length+1)/256)=_;rw[h,show(c.toNat+256*le p 0 p.length)%256=c.toNat by omega,show(c.toNat+256*le p 0 p.length)/256=le p 0 p.length by omega,YM p];simp
theorem ake{p:List UInt8}{s:Nat}(hp:p.length=8)(hs:s<2^64):p=leB 8 s↔s=le p 0 8:=by
 constructor
 .intro h;rw[h,YK,bu (by simpa using hs)]
 .intro h;have:=YM p;rw[hp]at this;rw[h,this]
theorem At.seal{Z t:List UInt8}{a n:Nat}(h:At Z a t)(ht:t.length=n+8):yH Z a n=if sumOf (part t 0 n)=le (part t n 8) 0 8 then none else some (6,a+n):=by
 have h1:=h.1;unfold yH;rw[ah ae,h.cut (j:=n) (n:=8) ae];have h2:=h.cut (j:=0) (n:=n) ae;rw[fG]at h2;rw[h2];have:=ake (p:=part t n 8) (s:=sumOf (part t 0 n)) (qE ae) (Jr _);by_cases q:part t n 8=leB 8 (sumOf (part t 0 n))
 .rw[aj q,aj (this.1 q)]
 .rw[ah q,ah (λx=>q (this.2 x))]
theorem aah{Z:List UInt8}{a n:Nat}(h:Z.length<a+n+8):yH Z a n=some (4,Z.length):=by unfold yH;rw[aj h]
theorem Uf(Z:List UInt8):∀(ws:List UInt8)(a i:Nat),i<ws.length->a+i<Z.length->(∀j,j<i->sH Z (a+j)=(ws.getD j 0).toNat)->sH Z (a+i)≠(ws.getD i 0).toNat->Ah Z a ws=some (5,a+i)
 |[],_,_,h,_,_,_=>by simp at h
 |c::ws,a,0,_,h2,_,h4=>by unfold Ah;rw[ah ae,ah (by simpa using h4)];rfl
 |c::ws,a,i+1,h1,h2,h3,h4=>by
  have h0:=h3 0 ae;unfold Ah;rw[ah ae,aj (by simpa using h0)];rw[Uf Z ws (a+1) i gG ae (λj hj=>?_) ?_,show a+1+i=a+(i+1)by omega]
  .rw[show a+1+i=a+(i+1)by omega];simpa using h4
  .exact aq6
theorem Ug(Z:List UInt8):∀(ws:List UInt8)(a:Nat),(∀j,j<ws.length->a+j<Z.length/\sH Z (a+j)=(ws.getD j 0).toNat)->Ah Z a ws=none
 |[],_,_=>rfl
 |c::ws,a,h=>by have h0:=h 0 ai;unfold Ah;rw[ah ae,aj (by simpa using h0.2)];refine Ug Z ws (a+1) (λj hj=>?_);have:=h (j+1) iR;rw[show a+1+j=a+(j+1)by omega];exact⟨this.1,by rw[this.2];simp⟩
theorem QD(Z:List UInt8):∀(ws:List UInt8)(a d:Nat),d<ws.length->Z.length=a+d->(∀j,j<d->sH Z (a+j)=(ws.getD j 0).toNat)->Ah Z a ws=some (4,Z.length)
 |[],_,_,h,_,_=>by simp at h
 |c::ws,a,0,_,h2,_=>by unfold Ah;rw[aj ae]
 |c::ws,a,d+1,h1,h2,h3=>by have h0:=h3 0 ae;unfold Ah;rw[ah ae,aj (by simpa using h0)];refine QD Z ws (a+1) d gG ae (λj hj=>?_);exact aq6
theorem Si{l ws:List UInt8}{c:Nat}:zV l ws=some c↔c<min ws.length l.length/\(∀i,i<c->sH l i=(ws.getD i 0).toNat)/\sH l c≠(ws.getD c 0).toNat:=by
 unfold zV;rw[nO];constructor
 .rintro⟨h1,h2,h3⟩;exact⟨iT,λi hi=>by simpa using h3 i hi,gG⟩
 .rintro⟨h1,h2,h3⟩;exact⟨by simpa using h3,gG,λi hi=>by simpa using h2 i hi⟩
theorem CZ{l ws:List UInt8}:zV l ws=none↔∀i,i<min ws.length l.length->sH l i=(ws.getD i 0).toNat:=by
 unfold zV;rw[nP];constructor
 .intro h i hi;have:=h i mG;exact aqb
 .intro h i hi;have:=h i mG;exact aqb
theorem At.X9{Z t ws:List UInt8}{a i:Nat}(h:At Z a t)(hb:zV t ws=some i):Ah Z a ws=some (5,a+i):=by
 obtain⟨h1,h2,h3⟩:=Si.1 hb;have h4:=h.1;refine Uf Z ws a i ae ae (λj hj=>?_) ?_
 .rw[h.2 j ae];exact h2 j hj
 .rw[h.2 i ae];exact h3
theorem At.KJ{Z t ws:List UInt8}{a:Nat}(h:At Z a t)(hb:zV t ws=none)(hl:ws.length<=t.length):Ah Z a ws=none:=by have h1:=CZ.1 hb;have h4:=h.1;refine Ug Z ws a (λj hj=>⟨ae,?_⟩);rw[h.2 j ae];exact h1 j ae
theorem At.Uh{Z t ws:List UInt8}{a:Nat}(h:At Z a t)(hb:zV t ws=none)(hl:t.length<ws.length)(hz:Z.length=a+t.length):Ah Z a ws=some (4,Z.length):=by have h1:=CZ.1 hb;refine QD Z ws a t.length hl hz (λj hj=>?_);rw[h.2 j hj];exact h1 j ae
def uB:List (Nat×Nat×Int×Int)->Option Nat
 |[]=>none
 |(p,v,lo,hi)::r=>if(v:Int)<lo\/hi<(v:Int)then some p else uB r
theorem acN(a b c:Option (Nat×Nat)):Ld (Ld a b) c=Ld a (Ld b c):=by cases a<;>rfl
theorem wZ(p v:Nat)(lo hi:Int)(r:List (Nat×Nat×Int×Int))(ok:Bool)(h:ok=true↔lo<=(v:Int)/\(v:Int)<=hi):(uB ((p,v,lo,hi)::r)).map (λx=>(1,x))=Ld (xK ok 1 p) ((uB r).map (λx=>(1,x))):=by
 cases ok with
 |true=>
  have:=h.1 rfl;show(if(v:Int)<lo\/hi<(v:Int)then some p else uB r).map (λx=>(1,x))=_;rw[ah ae];rfl
 |false=>
  have:¬(lo<=(v:Int)/\(v:Int)<=hi):=λx=>by have:=h.2 x;cases this
  show(if(v:Int)<lo\/hi<(v:Int)then some p else uB r).map (λx=>(1,x))=_;rw[aj ae];rfl
theorem aai(k n i z c m ln zz:Nat):O3 none k n i z c m ln zz=(uB [(6,k,1,128),(7,n,(k:Int),128),(8,i,0,(n:Int)-1),(9,z,0,0),(10,c,1,65536),(14,m,4,300000),(18,ln,0,65536),(22,zz,0,0)]).map (λx=>(1,x)):=by
 rw[wZ _ _ _ _ _ (decide (1<=k/\k<=128)) az,wZ _ _ _ _ _ (decide (k<=n/\n<=128)) az,wZ _ _ _ _ _ (decide (i<n)) az,wZ _ _ _ _ _ (decide (z=0)) ai,wZ _ _ _ _ _ (decide (1<=c/\c<=65536)) az,wZ _ _ _ _ _ (decide (4<=m/\m<=300000)) az,wZ _ _ _ _ _ (decide (ln<=65536)) az,wZ _ _ _ _ _ (decide (zz=0)) ai];unfold O3;simp only[acN];have:(Option.map (λx=>(1,x)) (uB []))=(none:Option (Nat×Nat)):=rfl;rw[this];have o:∀r:Option (Nat×Nat),Ld r none=r:=λr=>by cases r<;>rfl
 rw[o];rfl
def vO(u:List UInt8)(a:Nat)(ns:List (List UInt8))(zs:List Nat):Except Nat (List UInt8×Nat):=
 if u.length<a+6\/le u a 2<1\/255<le u a 2\/u.length<a+6+le u a 2 then .error a
 else if 0<ns.length/\um (part u (a+2) (le u a 2)) (ns.getD (ns.length-1) [])=true then .error (a+2)
 else if 65536<zs.sum+le u (a+2+le u a 2) 4 then .error (a+2+le u a 2)
 else .ok (part u (a+2) (le u a 2),le u (a+2+le u a 2) 4)
def xI(u:List UInt8):Nat->Nat->List (List UInt8)->List Nat->Except Nat (List (List UInt8)×List Nat)
 |0,a,ns,zs=>if a<u.length then .error a else .ok (ns,zs)
 |c+1,a,ns,zs=>match vO u a ns zs with
  | .error p=>.error p
  | .ok (nm,z)=>xI u c (a+(6+nm.length)) (ns++[nm]) (zs++[z])
def yG(u:List UInt8):Except Nat (List (List UInt8)×List Nat):=if 1000<le u 0 4 then .error 0 else xI u (le u 0 4) 4 [] []
def upE(b:Nat)(r:Except Nat (List (List UInt8)×List Nat)):Except (Nat×Nat) (List (List UInt8)×List Nat):=
 match r with
 | .error p=>.error (7,b+p)
 | .ok x=>.ok x
theorem IU{Z u:List UInt8}{m:Nat}(h:At Z 32 u)(hu:u.length=m):∀(c a:Nat)(ns:List (List UInt8))(zs:List Nat),a<=m->zs.sum<=65536->abJ (32+m) (FO Z (32+m) c (32+a) ns zs)=upE 32 (xI u c a ns zs)
 |0,a,ns,zs,ha,_=>by
  unfold FO xI;simp only[abJ];by_cases q:a<u.length
  .rw[aj q,ah ae];rfl
  .rw[ah q,aj ae];rfl
 |c+1,a,ns,zs,ha,hz=>by
  unfold FO xI;by_cases q0:u.length<a+6
  .have hb:vO u a ns zs=.error a:=by unfold vO;rw[aj (.inl q0)]
   rw[hb];by_cases q1:32+m<32+a+2
   .rw[aj q1];rfl
   .rw[ah q1,aj (by right;right;omega)];rfl
  .have e2:le Z (32+a) 2=le u a 2:=h.num 2 a ae;rw[ah ae,e2];by_cases q1:le u a 2<1\/255<le u a 2\/u.length<a+6+le u a 2
   .have hb:vO u a ns zs=.error a:=by unfold vO;rw[aj (.inr q1)]
    rw[hb,aj ae];rfl
   .have e3:part Z (32+a+2) (le u a 2)=part u (a+2) (le u a 2):=by rw[dB];exact h.cut ae
    have e4:le Z (32+a+2+le u a 2) 4=le u (a+2+le u a 2) 4:=by rw[show 32+a+2+le u a 2=32+(a+2+le u a 2)by omega];exact h.num 4 _ ae
    rw[ah ae,e3,e4];by_cases q2:0<ns.length/\um (part u (a+2) (le u a 2)) (ns.getD (ns.length-1) [])=true
    .have hb:vO u a ns zs=.error (a+2):=by unfold vO;rw[ah ae,aj q2]
     rw[hb,aj q2];simp only[abJ,upE];rw[dB]
    .rw[ah q2]
     have hs:65536<Ai (zs++[le u (a+2+le u a 2) 4])↔65536<zs.sum+le u (a+2+le u a 2) 4:=by unfold Ai;simp only[iw,jc,lY,fG];split<;>omega
     by_cases q3:65536<zs.sum+le u (a+2+le u a 2) 4
     .have hb:vO u a ns zs=.error (a+2+le u a 2):=by unfold vO;rw[ah ae,ah q2,aj q3]
      rw[hb,aj (hs.2 q3)];simp only[abJ,upE];rw[show 32+a+2+le u a 2=32+(a+2+le u a 2)by omega]
     .have hb:vO u a ns zs=.ok (part u (a+2) (le u a 2),le u (a+2+le u a 2) 4):=by unfold vO;rw[ah ae,ah q2,ah q3]
      rw[hb,ah (λx=>q3 (hs.1 x))];simp only;have hl:(part u (a+2) (le u a 2)).length=le u a 2:=qE ae;rw[show 32+a+6+le u a 2=32+(a+(6+(part u (a+2) (le u a 2)).length))by rw[hl];omega];exact IU h hu c _ _ _ mQ az
structure St where
 k:Nat
 n:Nat
 i:Nat
 c:Nat
 ns:List (List UInt8)
 zs:List Nat
 qx:List UInt8
 m:Nat
 ln:Nat
 tt:Nat
 nx:Nat
 pl:Nat
def St.sz(s:St):Nat:=wY s.nx s.c s.m s.ln s.qx.length
def xx(s:St)(t:List UInt8):Option (Nat×Nat):=
 if t.length<s.sz then some (4,s.pl+t.length)
 else if sumOf (part t 0 (t.length-8))=le (part t (t.length-8) 8) 0 8 then none else some (6,s.pl+(t.length-8))
def xJ(t:List UInt8):List (Nat×Nat×Int×Int):=[(6,le t 6 1,1,128),(7,le t 7 1,(le t 6 1:Int),128),(8,le t 8 1,0,(le t 7 1:Int)-1),(9,le t 9 1,0,0),(10,le t 10 4,1,65536),(14,le t 14 4,4,300000),(18,le t 18 4,0,65536),(22,le t 22 2,0,0)]
def FB(s:St)(t:List UInt8):Except (Nat×Nat) St:=
 match zV t zu with
 |some i=>.error (5,s.pl+i)
 |none=>match xx s t with
  |some e=>.error e
  |none=>match uB (xJ t)with
   |some p=>.error (1,p)
   |none=>.ok {s with k:=le t 6 1,n:=le t 7 1,i:=le t 8 1,c:=le t 10 4,m:=le t 14 4,ln:=le t 18 4}
def OZ(s:St)(t:List UInt8):Except (Nat×Nat) St:=
 match xx s t with
 |some e=>.error e
 |none=>match yG (part t 0 (t.length-8))with
  | .error p=>.error (7,s.pl+p)
  | .ok (ns,zs)=>if s.ln=sF s.k zs.sum then .ok {s with ns:=ns,zs:=zs,tt:=zs.sum,qx:=[]}else .error (7,18)
def Ob(u:List UInt8)(F:Int):Option Nat:=(List.range u.length).find? λm=>decide (F<=(m:Int)/\sH u m≠0)
def BD(s:St)(t:List UInt8):Except (Nat×Nat) St:=
 match xx s t with
 |some e=>.error e
 |none=>match Ob (part t 0 (t.length-8)) (zq s.k s.i s.tt-(s.qx.length:Int))with
  |some m=>.error (8,s.pl+m)
  |none=>.ok {s with qx:=s.qx++part t 0 (t.length-8)}
def FH(s:St)(t:List UInt8):Except (Nat×Nat) St:=
 match zV t t_ with
 |some i=>.error (5,s.pl+i)
 |none=>if t.length<s.sz then .error (4,s.pl+t.length)else .ok s
def ui(s:St)(t:List UInt8):Except (Nat×Nat) St:=
 if s.nx=0 then FB s t else if s.nx=1 then OZ s t else if s.nx=2 then BD s t else FH s t
def vP(s:St):Nat:=if s.nx=0 then 1 else if s.nx=3 then 4 else if s.qx.length<s.ln then 2 else 3
def rQ(s:St)(t:List UInt8):St:={s with pl:=s.pl+t.length,nx:=vP s}
structure Head(s:St)(Z:List UInt8):Prop where
 ok:Dx Z=none
 k:s.k=le Z 6 1
 n:s.n=le Z 7 1
 i:s.i=le Z 8 1
 c:s.c=le Z 10 4
 m:s.m=le Z 14 4
 ln:s.ln=le Z 18 4
structure Man(s:St)(Z:List UInt8):Prop where
 head:Head s Z
 names:BF Z s.m=.ok (s.ns,s.zs)
 long:s.ln=lengthS s.k s.zs
 tt:s.tt=s.zs.sum
 small:s.zs.sum<=65536
def Ox(s:St)(Z:List UInt8)(f a:Nat)(qx:List UInt8):Except (Nat×Nat) (List UInt8×Nat):=
 xh Z (decide (s.i<s.k)) s.c s.ln ((Ai s.zs:Int)-((s.i*lengthS s.k s.zs:Nat):Int)) f a qx
inductive Good (s:St) (Z:List UInt8):Prop
 |head (h0:s.nx=0) (h1:s.pl=0) (h2:s.qx=[])
 |Lj (h0:s.nx=1) (h1:s.pl=32) (h2:s.qx=[]) (hh:Head s Z)
 |frame (h0:s.nx=2) (hm:Man s Z) (h1:s.qx.length<s.ln) (f:Nat) (hf:s.ln<=f+s.qx.length) (he:Ox s Z s.ln (32+s.m+8) []=Ox s Z f s.pl s.qx)
 |tail (h0:s.nx=3) (hm:Man s Z) (h1:s.ln=s.qx.length) (he:Ox s Z s.ln (32+s.m+8) []=.ok (s.qx,s.pl))
 |done (h0:s.nx=4) (hm:Man s Z) (h1:s.ln=s.qx.length) (a:Nat) (ha:s.pl=a+4) (he:Ox s Z s.ln (32+s.m+8) []=.ok (s.qx,a)) (hx:Ah Z a t_=none)
theorem Sj{Z:List UInt8}{e:Nat×Nat}(h:Dx Z=some e):qP Z=.error e:=by unfold qP;rw[h]
theorem GY{s:St}{Z:List UInt8}{e:Nat×Nat}(h:Head s Z)(hn:BF Z s.m=.error e):qP Z=.error e:=by unfold qP;rw[h.ok];simp only;rw[<-h.m,hn]
theorem Sl{s:St}{Z:List UInt8}{ns:List (List UInt8)}{zs:List Nat}(h:Head s Z)(hn:BF Z s.m=.ok (ns,zs))(hl:¬s.ln=lengthS s.k zs):qP Z=.error (7,18):=by unfold qP;rw[h.ok];simp only;rw[<-h.m,hn];simp only;rw[<-h.ln,<-h.k,ah hl]
theorem Fb{s:St}{Z:List UInt8}{e:Nat×Nat}(h:Man s Z)(hf:Ox s Z s.ln (32+s.m+8) []=.error e):qP Z=.error e:=by have hh:=h.head;unfold qP;rw[hh.ok];simp only;rw[<-hh.m,h.names];simp only;rw[<-hh.ln,<-hh.k,aj h.long];unfold Ox at hf;rw[<-hh.i,<-hh.c,hf]
theorem Du{s:St}{Z:List UInt8}{e:Nat×Nat}{qx:List UInt8}{a:Nat}(h:Man s Z)(hf:Ox s Z s.ln (32+s.m+8) []=.ok (qx,a))(ht:Ld (Ah Z a t_) (xK (decide (Z.length<=a+4)) 9 (a+4))=some e):qP Z=.error e:=by have hh:=h.head;unfold qP;rw[hh.ok];simp only;rw[<-hh.m,h.names];simp only;rw[<-hh.ln,<-hh.k,aj h.long];unfold Ox at hf;rw[<-hh.i,<-hh.c,hf];simp only;rw[ht]
theorem VE{s:St}{Z:List UInt8}{qx:List UInt8}{a:Nat}(h:Man s Z)(hf:Ox s Z s.ln (32+s.m+8) []=.ok (qx,a))(ht:Ld (Ah Z a t_) (xK (decide (Z.length<=a+4)) 9 (a+4))=none):qP Z=.ok ⟨s.k,s.n,s.i,s.c,s.ns,s.zs,qx⟩:=by have hh:=h.head;unfold qP;rw[hh.ok];simp only;rw[<-hh.m,h.names];simp only;rw[<-hh.ln,<-hh.k,aj h.long];unfold Ox at hf;rw[<-hh.i,<-hh.c,hf];simp only;rw[ht,<-hh.n]
theorem MH{s:St}{Z t:List UInt8}{q:Nat}(hA:At Z s.pl t)(hz:s.sz=q+8)(ht:t.length<=s.sz){r:Option (Nat×Nat)}(h:xx s t=r)(h4:∀p,r=some (4,p)->Z.length=s.pl+t.length):yH Z s.pl q=r/\(r=none->t.length=q+8):=by
 unfold xx at h;by_cases q0:t.length<s.sz
 .rw[aj q0]at h;have:=h4 _ h.symm;refine⟨?_,λe=>by rw[e]at h;cases h⟩;rw[aah ae,<-h,this]
 .rw[ah q0]at h;have hl:t.length=q+8:=ae;refine⟨?_,λ_=>hl⟩;rw[hA.seal hl,<-h,hl,f_]
theorem sz0{s:St}(h:s.nx=0):s.sz=24+8:=by unfold St.sz wY;rw[aj h]
theorem sz1{s:St}(h:s.nx=1):s.sz=s.m+8:=by unfold St.sz wY;rw[ah ae,aj h]
theorem sz2{s:St}(h:s.nx=2):s.sz=min s.c (s.ln-s.qx.length)+8:=by unfold St.sz wY;rw[ah ae,ah ae,aj h]
theorem sz3{s:St}(h:s.nx=3):s.sz=4:=by unfold St.sz wY;rw[ah ae,ah ae,ah ae]
theorem acO{t:List UInt8}{Z:List UInt8}{a n:Nat}{ws:List UInt8}(hA:At Z a t)(hb:zV t ws=none)(hs:yH Z a n=some (4,Z.length))(hz:Z.length=a+t.length):Ld (Ah Z a ws) (yH Z a n)=some (4,Z.length):=by
 by_cases q:t.length<ws.length
 .rw[hA.Uh hb q hz];rfl
 .rw[hA.KJ hb ae];exact hs
theorem afR{s:St}{Z t:List UInt8}(h0:s.nx=0)(h1:s.pl=0)(h2:s.qx=[])(hA:At Z s.pl t)(ht:t.length<=s.sz):
  (∀e,FB s t=.error e->(e.1=4->Z.length=s.pl+t.length)->Dx Z=some e)/\(∀s',FB s t=.ok s'->t.length=32/\Head s' Z/\s'.qx=[]/\s'.nx=0/\s'.pl=0):=by
 have hz:=sz0 h0;unfold FB;cases hb:zV t zu with
 |some i=>
  refine⟨λe he _=>?_,λs' he=>jv⟩;cases he;unfold Dx;rw[h1]at hA;rw[hA.X9 hb,h1];rfl
 |none=>
  simp only;cases hs:xx s t with
  |some x=>
   refine⟨λe he h4=>?_,λs' he=>jv⟩;cases he;obtain⟨h5,_⟩:=MH hA hz ht hs (λp hp=>aoQ);rw[h1]at hA h5;unfold Dx;by_cases q:t.length<32
   .have hx:x=(4,s.pl+t.length):=by unfold xx at hs;rw[aj ae]at hs;cases hs;rfl
    have hZ:=h4 (by rw[hx]);rw[h1,aS]at hZ;rw[acO hA hb (by rw[h5,hx,hZ,h1,aS]) ae];rw[hx,hZ,h1,aS]
   .rw[hA.KJ hb (by simp[zu];omega)];simp only[Ld];rw[h5]
  |none=>
   obtain⟨h5,h6⟩:=MH hA hz ht hs (λp hp=>by cases hp);have hl:=h6 rfl;rw[h1]at hA h5;have hN:∀j n,j+n<=32->le Z j n=le t j n:=λj n hj=>by have:=hA.num n j ae;rw[aS]at this;exact this
   have hH:Dx Z=(uB (xJ t)).map (λx=>(1,x)):=by unfold Dx;rw[hA.KJ hb (by simp[zu];omega)];simp only[Ld];rw[h5];simp only;rw[aai,hN 6 1 ae,hN 7 1 ae,hN 8 1 ae,hN 9 1 ae,hN 10 4 ae,hN 14 4 ae,hN 18 4 ae,hN 22 2 ae];rfl
   simp only;cases hn:uB (xJ t)with
   |some p=>
    refine⟨λe he _=>?_,λs' he=>jv⟩;cases he;rw[hH,hn];rfl
   |none=>
    refine⟨λe he=>jv,λs' he=>?_⟩;cases he;exact⟨hl,⟨by rw[hH,hn];rfl,(hN 6 1 ae).symm,(hN 7 1 ae).symm,(hN 8 1 ae).symm,(hN 10 4 ae).symm,(hN 14 4 ae).symm,(hN 18 4 ae).symm⟩,h2,h0,h1⟩
theorem xM{k:Nat}{zs:List Nat}(h:zs.sum<=65536):lengthS k zs=sF k zs.sum:=by unfold lengthS sF Ai;rw[aj h]
theorem G_(u:List UInt8):∀(c a:Nat)(ns:List (List UInt8))(zs:List Nat){ns':List (List UInt8)}{zs':List Nat},zs.sum<=65536->xI u c a ns zs=.ok (ns',zs')->zs'.sum<=65536
 |0,a,ns,zs,ns',zs',hz,h=>by
  unfold xI at h;split at h
  .cases h
  .cases h;exact hz
 |c+1,a,ns,zs,ns',zs',hz,h=>by
  unfold xI at h;cases hb:vO u a ns zs with
  |error p=>rw[hb]at h;cases h
  |ok x=>
   obtain⟨nm,z⟩:=x;rw[hb]at h;refine G_ u c _ _ _ ?_ h;unfold vO at hb;split at hb
   .cases hb
   .split at hb
    .cases hb
    .split at hb
     .cases hb
     .cases hb;simp;omega
theorem aiC{s:St}{Z t:List UInt8}(h0:s.nx=1)(h1:s.pl=32)(hh:Head s Z)(hA:At Z s.pl t)(ht:t.length<=s.sz):
  (∀e,OZ s t=.error e->(e.1=4->Z.length=s.pl+t.length)->qP Z=.error e)/\(∀s',OZ s t=.ok s'->t.length=s.m+8/\Man s' Z/\s'.qx=[]/\s'.nx=1/\s'.pl=32/\s'.m=s.m):=by
 have hz:=sz1 h0;have hr:=hh.ok
 have hb:4<=s.m:=by
  have h2:=hh.ok;unfold Dx at h2;split at h2
  .cases h2
  .have:=IQ h2;rw[hh.m];omega
 unfold OZ;cases hs:xx s t with
 |some x=>
  refine⟨λe he h4=>?_,λs' he=>jv⟩;cases he;obtain⟨h5,_⟩:=MH hA hz ht hs (λp hp=>aoQ);rw[h1]at h5;exact GY hh (by unfold BF;rw[h5])
 |none=>
  obtain⟨h5,h6⟩:=MH hA hz ht hs (λp hp=>by cases hp);have hl:=h6 rfl;have hA2:=hA;rw[h1]at hA h5;simp only;rw[hl,f_];have hU:At Z 32 (part t 0 s.m):=by have:=hA.trans (At.Uz t (j:=0) (n:=s.m) ae);exact this
  have hUl:(part t 0 s.m).length=s.m:=qE ae
  have hnm:BF Z s.m=upE 32 (yG (part t 0 s.m)):=by
   unfold BF yG;rw[h5];simp only;have e4:le Z 32 4=le (part t 0 s.m) 0 4:=hU.num 4 0 ae;rw[e4];by_cases q:1000<le (part t 0 s.m) 0 4
   .rw[aj q,aj q];rfl
   .rw[ah q,ah q];exact IU hU hUl _ 4 [] [] ae ai
  cases hL:yG (part t 0 s.m)with
  |error p=>
   refine⟨λe he _=>?_,λs' he=>jv⟩;cases he;refine GY hh ?_;rw[hnm,hL,h1];rfl
  |ok x=>
   obtain⟨ns,zs⟩:=x;simp only
   have hsm:zs.sum<=65536:=by
    unfold yG at hL;split at hL
    .cases hL
    .exact G_ _ _ _ _ _ ai hL
   have alG:BF Z s.m=.ok (ns,zs):=by rw[hnm,hL];rfl
   by_cases q:s.ln=sF s.k zs.sum
   .rw[aj q];refine⟨λe he=>jv,λs' he=>?_⟩;cases he;exact⟨trivial,⟨⟨hh.ok,hh.k,hh.n,hh.i,hh.c,hh.m,hh.ln⟩,alG,by rw[xM hsm];exact q,rfl,hsm⟩,rfl,h0,h1,rfl⟩
   .rw[ah q];refine⟨λe he _=>?_,λs' he=>jv⟩;cases he;exact Sl hh alG (by rw[xM hsm];exact q)
