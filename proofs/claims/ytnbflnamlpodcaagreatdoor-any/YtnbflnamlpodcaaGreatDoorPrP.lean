import Derived.Test.YtnbflnamlpodcaaGreatDoorPrN
set_option maxHeartbeats 8000000
set_option maxRecDepth 100000
namespace Go.Proofs.Y
open Go.RowKit Go.Deep
theorem KQ{t:List UInt8}{n:Nat}:∀(m j:Nat)(i:Nat),i+m<=n->le (part t j n) i m=le t (j+i) m
 |0,_,_,_=>rfl
 |m+1,j,i,h=>by show sH (part t j n) i+256*le (part t j n) (i+1) m=sH t (j+i)+256*le t (j+i+1) m;rw[uh ae,KQ m j (i+1) ae,dB]
theorem Af(bx b off ct:Nat)(u:List UInt8)(hu:u.length=24)(hct:24<=ct)(A N:Int)(a n:Nat)(hA:A=a)(hN:N=n)(hn:n<=4)(ha:a+n<=24)(ha2:a<24)(w:World)(h:w.cell? ⟨bx,0,none⟩=some (.slice (some ⟨b,off,none⟩) 24 ct))(hB:Ag w b off u):
  Calls Tryz.prog 142 #[.int .i64 A,.int .i64 N,.pointer (some ⟨bx,0,none⟩)] w λq w'=>q=.returned (.int .i64 (le u a n:Nat))/\w'=w:=by
 subst hA hN;have hP:(part u a n).length=n:=qE ae;have K:=λcap=>vG b (off+a) n cap (part u a n) hP ae w (hB.part ae)
 have hle:le (part u a n) 0 n=le u a n:=KQ n a 0 ae;have hlt:le u a n<2^32:=aN (NY u n a) apt;rw[hle]at K;obtain⟨y,ey⟩:∃y,le u a n=y:=⟨_,rfl⟩;rw[ey]at K hlt⊢;have sl:=yE b off 24 ct (a:Int) ((a:Int)+(n:Int)) a (a+n) rfl ai ae ae ae;rw[show a+n-a=n by omega]at sl;clear ey hle hP hB hu;go_enter Tryz.func142,Tryz.ntmps142
 go_wp2_with(first|(go_at_call 141;refine(K _).mono ?_;rintro q w' ⟨rfl,hw'⟩;obtain rfl:=hw'.symm))
 exact aqi
def Rd.nums(r:Rd)(u:List UInt8):Rd:={r with k:=le u 6 1,n:=le u 7 1,i:=le u 8 1,c:=le u 10 4,m:=le u 14 4,ln:=le u 18 4}
def Ye(w:World)(rb:Nat)(r:Rd)(u:List UInt8)(q:Ending)(w':World):Prop:=
 But w.heap.size (· =rb) w w'/\wH w' rb (r.nums u)/\match uB (xJ u)with
  |some p=>∃v,q=.returned v/\Chain w' 0 v 1 p
  |none=>q=.returned .nilIface
theorem MP{w w3 w':World}{rb:Nat}{R:Rd}(hA:But w.heap.size (· =rb) w w3)(hR:wH w3 rb R)(hb:Below w3.heap.size w3 w'):But w.heap.size (· =rb) w w'/\wH w' rb R:=
 ⟨hA.trans (.of_below (hb.mono hA.size)),qf.later hR (S:=λ_=>False) (.of_below hb) (qf.lt hR) id⟩
def MQ(u:List UInt8):List Value:=[.int .i64 6,.int .i64 (le u 6 1:Nat),.int .i64 1,.int .i64 128,.int .i64 7,.int .i64 (le u 7 1:Nat),.int .i64 (le u 6 1:Nat),.int .i64 128,.int .i64 8,.int .i64 (le u 8 1:Nat),.int .i64 0,.int .i64 ((le u 7 1:Nat)-1),.int .i64 9,.int .i64 (le u 9 1:Nat),.int .i64 0,.int .i64 0,.int .i64 10,.int .i64 (le u 10 4:Nat),.int .i64 1,.int .i64 65536,.int .i64 14,.int .i64 (le u 14 4:Nat),.int .i64 4,.int .i64 300000,.int .i64 18,.int .i64 (le u 18 4:Nat),.int .i64 0,.int .i64 65536,.int .i64 22,.int .i64 (le u 22 2:Nat),.int .i64 0,.int .i64 0]
section
variable (rb:Nat)(r:Rd)(u:List UInt8)(b off ct:Nat)(hu:u.length=24)(hct:24<=ct)(hbr:b≠rb)(w:World)(h:wH w rb r)(hB:Ag w b off u)
include hu hct hbr h hB in
theorem Oz:
  Calls Tryz.prog 136 #[.pointer (some ⟨rb,0,none⟩),.slice (some ⟨b,off,none⟩) 24 ct] w λq w'=>Ye w rb r u q w':=by
 have hrb:=qf.lt h;have hbb:b<w.heap.size:=cell_lt (hB 0 ae);have hA:=(But.refl w.heap.size (· =rb) w).alloc (ak _) (.cells #[Value.slice (some ⟨b,off,none⟩) 24 ct] 34);have hx0:qf (w.alloc (.cells #[Value.slice (some ⟨b,off,none⟩) 24 ct] 34)) w.heap.size [.slice (some ⟨b,off,none⟩) 24 ct] 34:=qf.made w _ _
 have hR0:wH (w.alloc (.cells #[Value.slice (some ⟨b,off,none⟩) 24 ct] 34)) rb r:=by unfold wH qf at*;rw[bK w _ rb hrb];exact h
 have hB0:=hB.later hA hbb hbr;have hN:∀a n,n<=4->le u a n<2^32:=λa n hn=>aN (NY u n a) apt
 go_enter Tryz.func136,Tryz.ntmps136
 go_upto_region 3 with(fail)
 obtain⟨bx,ebx⟩:∃bx,w.heap.size=bx:=⟨_,rfl⟩;have hxr:bx≠rb:=ae;have hxb:bx≠b:=ae;rw[ebx]at hx0⊢;have EB:Hid (w.heap.size=bx):=ebx;clear ebx h hB;generalize w.alloc (.cells #[Value.slice (some ⟨b,off,none⟩) 24 ct] 34)=w0 at hA hx0 hR0 hB0⊢;have f0:=qf.frozen hR0;have c0:=qf.cell hR0 (i:=0) rfl;have c1:=qf.cell hR0 (i:=1) rfl;have c2:=qf.cell hR0 (i:=2) rfl;have c3:=qf.cell hR0 (i:=3) rfl
 go_upto_region 4 with(first|(go_at_call 142;refine(Af _ b off ct u hu hct _ _ 6 1 ax ax ae ae ae _ pM pR).mono ?_;rintro q w' ⟨rfl,hw'⟩;obtain rfl:=hw'.symm)|(go_at_call 142;refine(Af _ b off ct u hu hct _ _ 7 1 ax ax ae ae ae _ pM pR).mono ?_;rintro q w' ⟨rfl,hw'⟩;obtain rfl:=hw'.symm)|(go_at_call 142;refine(Af _ b off ct u hu hct _ _ 8 1 ax ax ae ae ae _ pM pR).mono ?_;rintro q w' ⟨rfl,hw'⟩;obtain rfl:=hw'.symm)|(go_at_call 142;refine(Af _ b off ct u hu hct _ _ 10 4 ax ax ae ae ae _ pM pR).mono ?_;rintro q w' ⟨rfl,hw'⟩;obtain rfl:=hw'.symm))
 have hR1:wH _ rb {r with k:=le u 6 1,n:=le u 7 1,i:=le u 8 1,c:=le u 10 4}:=(((qf.set hR0 0 (.int .i64 (le u 6 1:Nat))).set 1 (.int .i64 (le u 7 1:Nat))).set 2 (.int .i64 (le u 8 1:Nat))).set 3 (.int .i64 (le u 10 4:Nat));have hA1:But w.heap.size (· =rb) w _:=(((hA.setCell (p:=⟨rb,0,none⟩) (.inr rfl) (.int .i64 (le u 6 1:Nat))).setCell (p:=⟨rb,1,none⟩) (.inr rfl) (.int .i64 (le u 7 1:Nat))).setCell (p:=⟨rb,2,none⟩) (.inr rfl) (.int .i64 (le u 8 1:Nat))).setCell (p:=⟨rb,3,none⟩) (.inr rfl) (.int .i64 (le u 10 4:Nat));have hAA:But w0.heap.size (· =rb) w0 _:=((((But.refl w0.heap.size (· =rb) w0).setCell (p:=⟨rb,0,none⟩) (.inr rfl) (.int .i64 (le u 6 1:Nat))).setCell (p:=⟨rb,1,none⟩) (.inr rfl) (.int .i64 (le u 7 1:Nat))).setCell (p:=⟨rb,2,none⟩) (.inr rfl) (.int .i64 (le u 8 1:Nat))).setCell (p:=⟨rb,3,none⟩) (.inr rfl) (.int .i64 (le u 10 4:Nat));have hx1:=hx0.later hAA hx0.lt hxr;have hB1:=hB0.later hAA (cell_lt (hB0 0 ae)) hbr;clear hAA hA hx0 hB0 hR0 f0 c0 c1 c2 c3;generalize(((w0.setCell ⟨rb,0,none⟩ (.int .i64 (le u 6 1:Nat))).setCell ⟨rb,1,none⟩ (.int .i64 (le u 7 1:Nat))).setCell ⟨rb,2,none⟩ (.int .i64 (le u 8 1:Nat))).setCell ⟨rb,3,none⟩ (.int .i64 (le u 10 4:Nat))=w1 at hA1 hx1 hR1 hB1⊢;have f0:=qf.frozen hR1;have c7:=qf.cell hR1 (i:=7) rfl;have c8:=qf.cell hR1 (i:=8) rfl
 go_upto_region 5 with(first|(go_at_call 142;refine(Af _ b off ct u hu hct _ _ 14 4 ax ax ae ae ae _ (by exact hx1.cell rfl) (by exact hB1)).mono ?_;rintro q w' ⟨rfl,hw'⟩;obtain rfl:=hw'.symm)|(go_at_call 142;refine(Af _ b off ct u hu hct _ _ 18 4 ax ax ae ae ae _ (by exact hx1.cell rfl) (by exact hB1)).mono ?_;rintro q w' ⟨rfl,hw'⟩;obtain rfl:=hw'.symm))
 have hR2:wH _ rb (r.nums u):=((qf.set hR1 7 (.int .i64 (le u 14 4:Nat))).set 8 (.int .i64 (le u 18 4:Nat)));have hA2:But w.heap.size (· =rb) w _:=(hA1.setCell (p:=⟨rb,7,none⟩) (.inr rfl) (.int .i64 (le u 14 4:Nat))).setCell (p:=⟨rb,8,none⟩) (.inr rfl) (.int .i64 (le u 18 4:Nat));have hAA:But w1.heap.size (· =rb) w1 _:=((But.refl w1.heap.size (· =rb) w1).setCell (p:=⟨rb,7,none⟩) (.inr rfl) (.int .i64 (le u 14 4:Nat))).setCell (p:=⟨rb,8,none⟩) (.inr rfl) (.int .i64 (le u 18 4:Nat));have hx2:=hx1.later hAA hx1.lt hxr;have hB2:=hB1.later hAA (cell_lt (hB1 0 ae)) hbr;clear hAA hA1 hx1 hB1 hR1 f0 c7 c8;generalize(w1.setCell ⟨rb,7,none⟩ (.int .i64 (le u 14 4:Nat))).setCell ⟨rb,8,none⟩ (.int .i64 (le u 18 4:Nat))=w2 at hA2 hx2 hR2 hB2⊢;have c0:=qf.cell hR2 (i:=0) rfl;have c1:=qf.cell hR2 (i:=1) rfl;have c2:=qf.cell hR2 (i:=2) rfl;have c3:=qf.cell hR2 (i:=3) rfl;have c7:=qf.cell hR2 (i:=7) rfl;have c8:=qf.cell hR2 (i:=8) rfl;simp only[Rd.nums]at c0 c1 c2 c3 c7 c8;have K9:=Af _ b off ct u hu hct 9 1 9 1 rfl rfl ae ae ae w2.drew (show w2.drew.cell? _=_ from hx2.cell rfl) (show Ag w2.drew b off u from hB2);have K22:=Af _ b off ct u hu hct 22 2 22 2 rfl rfl ae ae ae w2.drew (show w2.drew.cell? _=_ from hx2.cell rfl) (show Ag w2.drew b off u from hB2);have h7:=hN 7 1 ae;have HM:Hid _:=hN;clear hN
 go_region_held3 (λw'=>w'.cell? ⟨rb,0,none⟩=some (.int .i64 (le u 6 1:Nat))/\w'.cell? ⟨rb,1,none⟩=some (.int .i64 (le u 7 1:Nat))/\w'.cell? ⟨rb,2,none⟩=some (.int .i64 (le u 8 1:Nat))/\w'.cell? ⟨rb,3,none⟩=some (.int .i64 (le u 10 4:Nat))/\w'.cell? ⟨rb,7,none⟩=some (.int .i64 (le u 14 4:Nat))/\w'.cell? ⟨rb,8,none⟩=some (.int .i64 (le u 18 4:Nat))) (go_keep)
  (first|(go_at_call 142;with_reducible refine K9.mono ?_;rintro e w' ⟨rfl,hw'⟩;obtain rfl:=hw'.symm)|(go_at_call 142;with_reducible refine K22.mono ?_;rintro e w' ⟨rfl,hw'⟩;obtain rfl:=hw'.symm))
 have hwr:IntKind.i64.wrap ((le u 7 1:Nat)-1:Int)=(le u 7 1:Nat)-1:=dQ _ ae;rw[hwr];clear hwr K9 K22 c0 c1 c2 c3 c7 c8;have hA3:But w.heap.size (· =rb) w _:=(hA2.alloc (by have:=hA2.size;omega) (.cells (MQ u).toArray 226)).drew
 have VU:wH ((w2.alloc (.cells (MQ u).toArray 226)).drew) rb (r.nums u):=by have:=qf.later hR2 (S:=λ_=>False) ((But.refl w2.heap.size _ w2).alloc (ak _) (.cells (MQ u).toArray 226)) (qf.lt hR2) id;exact this
 have Fp:qf ((w2.alloc (.cells (MQ u).toArray 226)).drew) w2.heap.size (MQ u) 226:=qf.made w2 _ _;unfold MQ at hA3 VU Fp;obtain⟨g,eg⟩:∃g,w2.heap.size=g:=⟨_,rfl⟩;rw[eg]at Fp⊢;generalize(w2.alloc _).drew=w3 at hA3 VU Fp⊢;clear hA2 hR2 hx2 hB2 eg
 have hrow:∀c,c<8->∃(p v:Nat)(lo hi:Int),(xJ u).drop c=(p,v,lo,hi)::(xJ u).drop (c+1)/\w3.cell? ⟨g,c*4,none⟩=some (.int .i64 (p:Int))/\w3.cell? ⟨g,c*4+1,none⟩=some (.int .i64 (v:Int))/\w3.cell? ⟨g,c*4+2,none⟩=some (.int .i64 lo)/\w3.cell? ⟨g,c*4+3,none⟩=some (.int .i64 hi):=by
  intro c hc
  match c,hc with
  |0,_=>exact⟨6,_,_,_,rfl,Fp.cell rfl,Fp.cell rfl,Fp.cell rfl,Fp.cell rfl⟩
  |1,_=>exact⟨7,_,_,_,rfl,Fp.cell rfl,Fp.cell rfl,Fp.cell rfl,Fp.cell rfl⟩
  |2,_=>exact⟨8,_,_,_,rfl,Fp.cell rfl,Fp.cell rfl,Fp.cell rfl,Fp.cell rfl⟩
  |3,_=>exact⟨9,_,_,_,rfl,Fp.cell rfl,Fp.cell rfl,Fp.cell rfl,Fp.cell rfl⟩
  |4,_=>exact⟨10,_,_,_,rfl,Fp.cell rfl,Fp.cell rfl,Fp.cell rfl,Fp.cell rfl⟩
  |5,_=>exact⟨14,_,_,_,rfl,Fp.cell rfl,Fp.cell rfl,Fp.cell rfl,Fp.cell rfl⟩
  |6,_=>exact⟨18,_,_,_,rfl,Fp.cell rfl,Fp.cell rfl,Fp.cell rfl,Fp.cell rfl⟩
  |7,_=>exact⟨22,_,_,_,rfl,Fp.cell rfl,Fp.cell rfl,Fp.cell rfl,Fp.cell rfl⟩
 have hg3:g<w3.heap.size:=Fp.lt;clear Fp h7 HM hu hct hbr;go_wp2
 go_loopw [90] (λvi wr=>∃c:Nat,c<=8/\vi=.int .i64 (c:Int)/\Below w3.heap.size w3 wr/\Hid (uB (xJ u)=uB ((xJ u).drop c))) (λi _=>8-(intOf i).toNat)
 case atStart=>exact⟨0,ae,rfl,aA _ _,rfl⟩
 case round=>
  obtain⟨c,hc,rfl,hb,H⟩:=hrel;by_cases hlt:c<8
  .obtain⟨p,v,lo,hi,e1,d0,d1,d2,d3⟩:=hrow c hlt
   have H2:Hid (uB (xJ u)=if(v:Int)<lo\/hi<(v:Int)then some p else uB ((xJ u).drop (c+1))):=by show _=_;rw[H.out,e1];rfl
   rw[<-hb.cell (p:=⟨g,c*4,none⟩) hg3]at d0;rw[<-hb.cell (p:=⟨g,c*4+1,none⟩) hg3]at d1;rw[<-hb.cell (p:=⟨g,c*4+2,none⟩) hg3]at d2;rw[<-hb.cell (p:=⟨g,c*4+3,none⟩) hg3]at d3;clear hrow e1 H;by_cases q1:(v:Int)<lo
   .have HB:Hid (uB (xJ u)=some p):=by show _=_;rw[H2.out,aj (.inl q1)]
    go_wp2_with(first|(go_at_call 64;refine(yS _ _ 1 p ax ax _).mono ?_;rintro q w5 ⟨v5,rfl,g1,g2⟩))
    exact aro
   .by_cases q2:hi<(v:Int)
    .have HB:Hid (uB (xJ u)=some p):=by show _=_;rw[H2.out,aj (.inr q2)]
     go_wp2_with(first|(go_at_call 64;refine(yS _ _ 1 p ax ax _).mono ?_;rintro q w5 ⟨v5,rfl,g1,g2⟩))
     exact aro
    .have HB:Hid (uB (xJ u)=uB ((xJ u).drop (c+1))):=by
      show _=_;rw[H2.out,ah ae]
     clear H2;go_wp2
     go_roundw
     case rel=>exact⟨c+1,ae,aV,by first|exact hb.alloc hb.size _|exact(hb.alloc hb.size _).setCell an_ _,HB⟩
     case measure=>simp[intOf];omega
  .obtain rfl:c=8:=ae;have HB:Hid (uB (xJ u)=none):=H;clear hrow;go_wp2;go_ret;obtain⟨z1,z2⟩:=MP hA3 VU hb;refine⟨z1,z2,?_⟩;rw[HB.out];exact rfl
end
def sO(B:Nat)(w:World)(rb:Nat)(s:St)(t:List UInt8)(vN vS vC vT:Value)(R:Except (Nat×Nat) St)(D:Nat)(q:Ending)(w':World):Prop:=
 But w.heap.size (Mine rb vC vT) w w'/\match R with
 | .error e=>(∃v d,d<=D/\q=.returned v/\Chain w' d v e.1 e.2)/\(∃r',wH w' rb r')/\(e.1=4->RI B w' rb s t vN vS vC vT)
 | .ok s'=>q=.returned .nilIface/\∃QE QF Dw,RI B w' rb s' t QE QF Dw vT/\(Dw.ownBlock=vC.ownBlock\/∃g,Dw.ownBlock=some g/\w.heap.size<=g)
theorem RI.below{B rb:Nat}{w w':World}{s:St}{t:List UInt8}{vN vS vC vT:Value}(I:RI B w rb s t vN vS vC vT)(hb:Below w.heap.size w w'):RI B w' rb s t vN vS vC vT:=by
 have key:∀{e n:Nat}{v:Value}{xs:List Value},w.ownsRow B e 1 v n xs->w'.ownsRow B e 1 v n xs:=λh=>uz h (λg hg'=>hb.block g (h.lt g hg').2)
 exact⟨qf.later I.rd (S:=λ_=>False) (.of_below hb) (qf.lt I.rd) id,key I.on,key I.os,key I.oc,key I.ot,I.ap,aK I.size hb.size⟩
theorem sO.fault{B:Nat}{w w':World}{rb:Nat}{s:St}{t:List UInt8}{vN vS vC vT v:Value}{e:Nat×Nat}{d D:Nat}(I:RI B w rb s t vN vS vC vT)(hd:d<=D)(h:Chain w' d v e.1 e.2)(hb:Below w.heap.size w w'):sO B w rb s t vN vS vC vT (.error e) D (.returned v) w':=
 ⟨.of_below hb,⟨v,d,hd,rfl,h⟩,⟨_,(I.below hb).rd⟩,λ_=>I.below hb⟩
theorem xe{w w':World}{j:Nat}(h:Below (w.drewN j).heap.size (w.drewN j) w'):Below w.heap.size w w':=⟨h.os,h.tape,h.output,h.size,h.block⟩
theorem RI.turn{B rb:Nat}{w w':World}{s s':St}{t:List UInt8}{vN vS vC vT:Value}(I:RI B w rb s t vN vS vC vT)(hB:But w.heap.size (· =rb) w w')(hR:wH w' rb (s'.rd vN vS vC vT .nilIface))(h1:s'.ns=s.ns)(h2:s'.zs=s.zs)(h3:s'.qx=s.qx):RI B w' rb s' t vN vS vC vT:=by
 have key:∀{e n:Nat}{v:Value}{xs:List Value},w.ownsRow B e 1 v n xs->e≠122->w'.ownsRow B e 1 v n xs:=λh he=>uz h (λg hg'=>hB.block g (h.lt g hg').2 (λe=>tq h I.rd he (by rw[hg',e])))
 exact⟨hR,by rw[h1];exact key I.on au,by rw[h2];exact key I.os au,by rw[h3];exact key I.oc au,key I.ot au,I.ap,aK I.size hB.size⟩
theorem aaq{t:List UInt8}:xJ (part t 0 24)=xJ t:=by
 have h:∀a n,a+n<=24->le (part t 0 24) a n=le t a n:=λa n hn=>apK
 unfold xJ;rw[h 6 1 ae,h 7 1 ae,h 8 1 ae,h 9 1 ae,h 10 4 ae,h 14 4 ae,h 18 4 ae,h 22 2 ae]
section
variable (B rb:Nat)(s:St)(t:List UInt8)(vN vS vC vT:Value)(hb:Bd s)(ht:t.length<=s.sz)(w:World)(I:RI B w rb s t vN vS vC vT)(tY:Tab w)
include hb ht I in
theorem VH(hnx:s.nx=3):Calls Tryz.prog 133 #[.pointer (some ⟨rb,0,none⟩)] w λq w'=>sO B w rb s t vN vS vC vT (FH s t) 0 q w':=by
 obtain⟨bc,cc,eC,hcc⟩:=I.oc.slice;obtain⟨bt,ct,eT,hct⟩:=I.ot.slice;have hz:=St.Ui hb
 have KB:Calls Tryz.prog 134 #[.pointer (some ⟨rb,0,none⟩),.string ⟨#[68,79,78,69]⟩] w λq w'=>EL w t t_ s.pl q w':=
  QH rb (s.rd vN vS vC vT .nilIface) t t_ au ae lF w I.rd I.ot.lies
 have KY:=λj=>Ue rb (s.rd vN vS vC vT .nilIface) bc s.qx.length cc eC lG lI lH hb.qx mP bt t.length ct eT (w.drewN j) I.rd
 have KN:=λj=>X8 rb (s.rd vN vS vC vT .nilIface) bc s.qx.length cc eC lG lI lH hb.qx mP bt t.length ct eT ae lF (w.drewN j) I.rd
 have hsz:wY s.nx s.c s.m s.ln s.qx.length=s.sz:=rfl;simp only[St.rd,hsz]at KY KN;unfold FH;cases hbe:zV t t_ with
 |some i=>
  have HB:Hid (zV t t_=some i):=hbe;clear KY KN hbe;unfold EL at KB;rw[HB.out]at KB;simp only at KB;go_enter Tryz.func133,Tryz.ntmps133
  go_wp2_with(first|(go_at_call 134;refine KB.mono ?_;rintro q w2 ⟨v,rfl,g1,g2⟩;obtain⟨ty,x,rfl⟩:=g1.iface))
  go_ret;exact sO.fault I (ak _) g1 g2
 |none=>
  unfold EL at KB;rw[hbe]at KB;simp only at KB⊢;by_cases q:t.length<s.sz
  .rw[aj q];have K:=λj=>KN j q
   clear KY KN hbe;go_enter Tryz.func133,Tryz.ntmps133
   go_wp2_with(first|(go_at_call 134;refine KB.mono ?_;rintro q w2 ⟨rfl,j,hw2⟩;obtain rfl:=hw2.symm)|(go_at_call 140;refine(K _).mono ?_;rintro q w2 ⟨v,rfl,g1,g2⟩))
   go_ret;exact sO.fault I (ak _) g1 (xe g2)
  .rw[ah q];have K:=λj=>KY j ae
   clear KY KN hbe;go_enter Tryz.func133,Tryz.ntmps133
   go_wp2_with(first|(go_at_call 134;refine KB.mono ?_;rintro q w2 ⟨rfl,j,hw2⟩;obtain rfl:=hw2.symm)|(go_at_call 140;refine(K _).mono ?_;rintro q w2 ⟨rfl,j2,hw2⟩;obtain rfl:=hw2.symm))
   go_ret;refine⟨((But.refl _ _ _).drewN _),rfl,vN,vS,vC,I.drewN _,.inl rfl⟩
include hb ht I tY in
theorem VG(hnx:s.nx=0):Calls Tryz.prog 130 #[.pointer (some ⟨rb,0,none⟩)] w λq w'=>sO B w rb s t vN vS vC vT (FB s t) 0 q w':=by
 obtain⟨bc,cc,eC,hcc⟩:=I.oc.slice;obtain⟨bt,ct,eT,hct⟩:=I.ot.slice;have hz:=St.Ui hb;have hz0:=sz0 hnx
 have KB:Calls Tryz.prog 134 #[.pointer (some ⟨rb,0,none⟩),.string ⟨#[67,65,73,82,78,49]⟩] w λq w'=>EL w t zu s.pl q w':=
  QH rb (s.rd vN vS vC vT .nilIface) t zu au ae lF w I.rd I.ot.lies
 have KS:=λj=>GV rb (s.rd vN vS vC vT .nilIface) bc s.qx.length cc eC lG lI lH hb.qx mP t bt ct eT ae lF (w.drewN j) I.rd I.ot.lies (tY.heap rfl)
 have hsz:wY s.nx s.c s.m s.ln s.qx.length=s.sz:=rfl;simp only[St.rd,hsz]at KS;have hSP:IK s.sz s.pl t=xx s t:=rfl;simp only[hSP]at KS;unfold FB;cases hbe:zV t zu with
 |some i=>
  have HB:Hid (zV t zu=some i):=hbe;clear KS hbe;unfold EL at KB;rw[HB.out]at KB;simp only at KB;go_enter Tryz.func130,Tryz.ntmps130
  go_wp2_with(first|(go_at_call 134;refine KB.mono ?_;rintro q w2 ⟨v,rfl,g1,g2⟩;obtain⟨ty,x,rfl⟩:=g1.iface))
  go_ret;exact sO.fault I (ak _) g1 g2
 |none=>
  unfold EL at KB;rw[hbe]at KB;simp only at KB⊢;cases hse:xx s t with
  |some e=>
   unfold xZ at KS;rw[hse]at KS;simp only at KS⊢;clear hbe hse;go_enter Tryz.func130,Tryz.ntmps130
   go_wp2_with(first|(go_at_call 134;refine KB.mono ?_;rintro q w2 ⟨rfl,j,hw2⟩;obtain rfl:=hw2.symm)|(go_at_call 135;refine(KS _).mono ?_;rintro q w2 ⟨v,rfl,g1,g2⟩;obtain⟨ty,x,rfl⟩:=g1.iface))
   go_ret;exact sO.fault I (ak _) g1 (xe g2)
  |none=>
   unfold xZ at KS;rw[hse]at KS;simp only at KS⊢
   have amK:t.length=32:=by
    unfold xx at hse;split at hse
    .cases hse
    .omega
   have hby:∃b off,bt=some ⟨b,off,none⟩/\Ag w b off t/\b≠rb:=by exact art
   obtain⟨b,off,rfl,hB,hbr⟩:=hby
   have hu:(part t 0 24).length=24:=qE ae;have KR:=λj=>Oz rb (s.rd vN vS vC vT .nilIface) (part t 0 24) b off ct hu ae hbr (w.drewN j) I.rd (by have:=hB.part (a:=0) (n:=24) ae;exact this)
   unfold Ye at KR;rw[aaq]at KR;have hle:∀a n,a+n<=24->le (part t 0 24) a n=le t a n:=λa n hn=>apK
   have hrd:(s.rd vN vS vC vT .nilIface).nums (part t 0 24)=({s with k:=le t 6 1,n:=le t 7 1,i:=le t 8 1,c:=le t 10 4,m:=le t 14 4,ln:=le t 18 4}:St).rd vN vS vC vT .nilIface:=by unfold Rd.nums St.rd;simp only;rw[hle 6 1 ae,hle 7 1 ae,hle 8 1 ae,hle 10 4 ae,hle 14 4 ae,hle 18 4 ae]
   rw[hrd]at KR;rw[amK]at KS;simp only[show 32-8=24 from rfl]at KS;have hBM:∀{j:Nat}{w':World},But (w.drewN j).heap.size (· =rb) (w.drewN j) w'->But w.heap.size (· =rb) w w':=λh=>((But.refl w.heap.size _ w).drewN _).trans h
   clear hbe hse hle hrd;cases hnu:uB (xJ t)with
   |some p=>
    rw[hnu]at KR;simp only at KR⊢;clear hnu;go_enter Tryz.func130,Tryz.ntmps130
    go_wp2_with(first|(go_at_call 134;refine KB.mono ?_;rintro q w2 ⟨rfl,j,hw2⟩;obtain rfl:=hw2.symm)|(go_at_call 135;refine(KS _).mono ?_;rintro q w2 ⟨rfl,j2,hw2⟩;obtain rfl:=hw2.symm)|(go_at_call 136;refine(KR _).mono ?_;rintro q w3 ⟨g1,g2,v,rfl,g3⟩))
    go_ret;exact⟨(hBM g1).mono (ak _) (λ_ x=>.inl x),⟨v,0,ak _,rfl,g3⟩,⟨_,g2⟩,λh=>dZ⟩
   |none=>
    rw[hnu]at KR;simp only at KR⊢;clear hnu;go_enter Tryz.func130,Tryz.ntmps130
    go_wp2_with(first|(go_at_call 134;refine KB.mono ?_;rintro q w2 ⟨rfl,j,hw2⟩;obtain rfl:=hw2.symm)|(go_at_call 135;refine(KS _).mono ?_;rintro q w2 ⟨rfl,j2,hw2⟩;obtain rfl:=hw2.symm)|(go_at_call 136;refine(KR _).mono ?_;rintro q w3 ⟨g1,g2,rfl⟩))
    go_ret;exact⟨(hBM g1).mono (ak _) (λ_ x=>.inl x),rfl,vN,vS,vC,I.turn (hBM g1) g2 rfl rfl rfl,.inl rfl⟩
end
theorem aar(u:List UInt8)(F:Int):QL u F=match Ob u F with|some m=>(m:Int)|none=> -1:=rfl
theorem Yf(k i t:Nat)(hk:1<=k)(ht:t<=65536):0<=zq k i t/\zq k i t<=65536:=by have h1:=B_ hk t;unfold zq;split<;>omega
theorem RI.column{B rb:Nat}{w w1:World}{s:St}{t x:List UInt8}{vN vS vC vT v1:Value}(I:RI B w rb s t vN vS vC vT)(h1:OwnB B w1 v1 (s.qx++x))(hg:w.grownBy w1 vC.ownBlock)(hk:v1.ownBlock=vC.ownBlock\/v1.ownBlock=some w.heap.size):
  RI B (w1.setCell ⟨rb,6,none⟩ v1) rb {s with qx:=s.qx++x} t vN vS v1 vT/\But w.heap.size (Mine rb vC vT) w (w1.setCell ⟨rb,6,none⟩ v1)/\w1.cell? ⟨rb,6,none⟩=some vC/\w1.frozen? ⟨rb,6,none⟩=false:=by
 have akh:=qf.lt I.rd;have hT:=tq I.oc I.rd au
 have hR1:wH w1 rb (s.rd vN vS vC vT .nilIface):=by exact ara
 have key:∀{e n:Nat}{v:Value}{xs:List Value},w.ownsRow B e 1 v n xs->ML v vC->w1.ownsRow B e 1 v n xs:=λh ha=>uz h (λg hg'=>hg.block g (h.lt g hg').2 (λe=>ha g hg' e.symm))
 have hN1:=key I.on (ER I.on I.oc au);have hS1:=key I.os (ER I.os I.oc au);have hT1:=key I.ot (λg h1 h2=>I.ap g h2 h1);have hR2:wH (w1.setCell ⟨rb,6,none⟩ v1) rb (({s with qx:=s.qx++x}:St).rd vN vS v1 vT .nilIface):=qf.set hR1 6 v1;refine⟨⟨hR2,tZ hN1 (tq hN1 hR1 au),tZ hS1 (tq hS1 hR1 au),tZ h1 (tq h1 hR1 au),tZ hT1 (tq hT1 hR1 au),?_,?_⟩,?_,qf.cell hR1 (i:=6) rfl,qf.frozen hR1 6⟩
 .intro g hg1 hg2;rcases hk with e|e
  .exact I.ap g (e▸hg1) hg2
  .have h2:=(iH I.ot g hg2).2;rw[e]at hg1;cases hg1;omega
 .have:=I.size;have:=hg.size;simp;omega
 .exact But.setCell (But.mono (But.Yc hg) (ak _) (λk hk=>.inr (.inl hk))) (p:=⟨rb,6,none⟩) (.inr (.inl rfl)) v1
section
variable (B rb:Nat)(s:St)(t:List UInt8)(vN vS vC vT:Value)(hb:Bd s)(ht:t.length<=s.sz)(w:World)(I:RI B w rb s t vN vS vC vT)(tY:Tab w)
include hb ht I tY in
theorem Sm(hnx:s.nx=2)(hk1:1<=s.k)(hk2:s.k<=128)(hi:s.i<=128)(htt:s.tt<=65536):Calls Tryz.prog 132 #[.pointer (some ⟨rb,0,none⟩)] w λq w'=>sO B w rb s t vN vS vC vT (BD s t) 0 q w':=by
 obtain⟨bc,cc,eC,hcc⟩:=I.oc.slice;obtain⟨bt,ct,eT,hct⟩:=I.ot.slice;have hz:=St.Ui hb;have KS:=GV rb (s.rd vN vS vC vT .nilIface) bc s.qx.length cc eC lG lI lH hb.qx mP t bt ct eT ae lF w I.rd I.ot.lies tY;have hsz:wY s.nx s.c s.m s.ln s.qx.length=s.sz:=rfl;simp only[St.rd,hsz]at KS;have hSP:IK s.sz s.pl t=xx s t:=rfl;simp only[hSP]at KS;unfold BD;cases hse:xx s t with
 |some e=>
  unfold xZ at KS;rw[hse]at KS;simp only at KS⊢;clear hse;go_enter Tryz.func132,Tryz.ntmps132
  go_wp2_with(first|(go_at_call 135;refine KS.mono ?_;rintro q w2 ⟨v,rfl,g1,g2⟩;obtain⟨ty,x,rfl⟩:=g1.iface))
  go_ret;exact sO.fault I (ak _) g1 g2
 |none=>
  unfold xZ at KS;rw[hse]at KS;simp only at KS⊢;have hz2:=sz2 hnx
  have hl8:t.length=s.sz:=by
   unfold xx at hse;split at hse
   .cases hse
   .omega
  obtain⟨b,off,ebt,hB⟩:∃b off,bt=some ⟨b,off,none⟩/\Ag w b off t:=by have hot:=I.ot;unfold OwnB at hot;obtain⟨g,c,e,_,_,_,_,hB⟩:=yU hot ae;rw[eT]at e;cases e;exact⟨g,0,rfl,hB⟩
  subst ebt;obtain⟨q,eq⟩:∃q,t.length-8=q:=⟨_,rfl⟩;have hq:q+8=t.length:=ae;have hq2:s.qx.length+q<=s.ln:=by have:=hb.qx;omega
  have hu:(part t 0 q).length=q:=qE ae;have hBu:Ag w b off (part t 0 q):=by have:=hB.part (a:=0) (n:=q) ae;exact this
  have hLu:Lies w (.slice (some ⟨b,off,none⟩) q ct) (rF (part t 0 q)):=by refine⟨_,ct,by rw[rH,hu],by rw[rH,hu];omega,λj u hj=>⟨b,off,rfl,?_⟩⟩;obtain⟨h1,rfl⟩:=QI hj;exact hBu j h1
  rw[eq]at KS⊢;have hln:=hb.ln;have hpl:=hb.pl;have hF:=Yf s.k s.i s.tt hk1 htt;have KU:=λj=>afZ (s.k:Int) (s.i:Int) (s.tt:Int) s.k s.i s.tt rfl rfl rfl hk1 ae ae htt (w.drewN j)
  have KF:=λj=>aas (zq s.k s.i s.tt-(s.qx.length:Int)) ae _ (part t 0 q) ae (w.drewN j) (hLu.drewN j)
  rw[aar]at KF;have c0:=qf.cell I.rd (i:=0) rfl;have c2:=qf.cell I.rd (i:=2) rfl;have c6:=qf.cell I.rd (i:=6) rfl;have c9:=qf.cell I.rd (i:=9) rfl;have c11:=qf.cell I.rd (i:=11) rfl;have f6:=qf.frozen I.rd 6;simp only[St.rd]at c0 c2 c6 c9 c11;subst eC;obtain⟨us,eus⟩:∃us,zq s.k s.i s.tt=us:=⟨_,rfl⟩;rw[eus]at KU KF hF⊢;have hwr:IntKind.i64.wrap (us-(s.qx.length:Int))=us-(s.qx.length:Int):=dQ _ ae;clear hse hl8 eq hsz hSP eus;cases hp:Ob (part t 0 q) (us-(s.qx.length:Int))with
  |some m=>
   rw[hp]at KF;simp only at KF⊢;have hm:m<q:=by have:=(IL.1 hp).1;omega
   obtain⟨pl,R_⟩:∃pl,s.pl=pl:=⟨_,rfl⟩;rw[R_]at c11 hpl⊢;have hwr2:IntKind.i64.wrap ((pl:Int)+(m:Int))=(pl:Int)+(m:Int):=dQ _ ae;clear hp;go_enter Tryz.func132,Tryz.ntmps132
   go_wp2_with(first|(go_at_call 135;refine KS.mono ?_;rintro q w2 ⟨rfl,j,hw2⟩;obtain rfl:=hw2.symm))
   go_big_quiet (first|(go_at_call 138;exact(KU _).mono (λ_ _ h=>⟨h.1,_,h.2⟩)))
   go_wp2_with(first|(go_at_call 139;refine(KF _).mono ?_;rintro q w2 ⟨rfl,hw2⟩;obtain rfl:=hw2.symm)|(go_at_call 64;refine(yS _ _ 8 (pl+m) ax ai _).mono ?_;rintro q w2 ⟨v,rfl,g1,g2⟩))
   go_ret;exact sO.fault I (ak _) g1 (xe g2)
  |none=>
   rw[hp]at KF;simp only at KF⊢;clear hp;have hot:=I.oc;unfold OwnB at hot;have hBs:=I.size;have hcl:=hb.qx;obtain⟨i0,hi0,hz0,hz1,hz3⟩:=bg Au;have hnews:∀j u,(rF (part t 0 q))[j]?=some u->w.cell? ((⟨b,off,none⟩:Addr).add j)=some u:=Ag.news hBu;go_enter Tryz.func132,Tryz.ntmps132
   go_wp2_with(first|(go_at_call 135;refine KS.mono ?_;rintro q w2 ⟨rfl,j,hw2⟩;obtain rfl:=hw2.symm))
   go_big_quiet (first|(go_at_call 138;exact(KU _).mono (λ_ _ h=>⟨h.1,_,h.2⟩)))
   go_wp2_with(first|(go_at_call 139;refine(KF _).mono ?_;rintro q w2 ⟨rfl,hw2⟩;obtain rfl:=hw2.symm)|(at_builtin;refine wpList_append_own_at _ rfl _ _ 34 rfl B 5 i0 (.int .u8 0) 1 1 Tryz.underlying34 hi0 hz0 hz1 hz3 rfl au _ _ _ rfl pO ⟨b,off,none⟩ q ct (rF (part t 0 q)) rfl (by rw[rH,hu];omega) aoP (Cb _) bH ae (by exact hBs) ?_;intro v2 w2 hown2 hgrow2 _ hblk2;have ow:=VL hown2;obtain⟨b2,c3,rfl,hc3⟩:=ow.slice;obtain⟨J,hJ,x6,y6⟩:=RI.column (I.drewN _) ow hgrow2 hblk2))
   go_ret;have e2:(s.qx++part t 0 q).length=s.qx.length+q:=by rw[aQ,hu]
   rw[e2]at J hJ hblk2;refine⟨((But.refl w.heap.size _ w).drewN _).trans hJ,rfl,vN,vS,_,J,?_⟩;rcases hblk2 with e|e
   .exact .inl e
   .exact .inr ⟨_,e,ak _⟩
