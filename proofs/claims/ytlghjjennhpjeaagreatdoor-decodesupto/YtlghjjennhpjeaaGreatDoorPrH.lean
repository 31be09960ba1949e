import Derived.Test.YtlghjjennhpjeaaGreatDoorPrN
set_option maxHeartbeats 8000000
set_option maxRecDepth 100000
namespace Go.Proofs.Y
open Go.Proofs.Tryz
open Go.RowKit Go.Deep
theorem Px{t:aj}{n:Nat}:∀(m j:Nat)(i:Nat),i+m<=n->le (part t j n) i m=le t (j+i) m
 |0,_,_,_=>rfl
 |m+1,j,i,h=>by show sV (part t j n) i+256*le (part t j n) (i+1) m=sV t (j+i)+256*le t (j+i+1) m;rw[uV ag,Px m j (i+1) ag,dO]
theorem CP(bx b off ct:Nat)(u:aj)(hu:u.length=24)(Ba:24<=ct)(A N:Int)(a n:Nat)(hA:A=a)(hN:N=n)(hn:n<=4)(ha:a+n<=24)(ha2:a<24)(w:ah)(h:w.cell? ⟨bx,0,none⟩=some (.slice (some ⟨b,off,none⟩) 24 ct))(hB:xM w b off u):
  Calls prog 140 #[.int .i64 A,.int .i64 N,.pointer (some ⟨bx,0,none⟩)] w λq w'=>q=.returned (.int .i64 (le u a n:Nat))/\w'=w:=by
 subst hA hN;have hP:(part u a n).length=n:=qF ag;have K:=λcap=>xe b (off+a) n cap (part u a n) hP ag w (hB.part ag)
 have hle:le (part u a n) 0 n=le u a n:=Px n a 0 ag;have qB:le u a n<2^32:=bH (IZ u n a) awu;rw[hle]at K;obtain⟨y,ey⟩:∃y,le u a n=y:=⟨_,rfl⟩;rw[ey]at K qB⊢;have sl:=wQ b off 24 ct (a:Int) ((a:Int)+(n:Int)) a (a+n) rfl aA ag ag ag;rw[show a+n-a=n by omega]at sl;clear ey hle hP hB hu;go_enter func140,ntmps140
 go_wp2_with(first|(go_at_call 139;refine(K _).mono ?_;rintro q w' ⟨rfl,sH⟩;obtain rfl:=sH.symm))
 exact axh
def Rd.nums(r:Rd)(u:aj):Rd:={r with k:=le u 6 1,n:=le u 7 1,i:=le u 8 1,c:=le u 10 4,m:=le u 14 4,ln:=le u 18 4}
def ab5(w:ah)(rb:Nat)(r:Rd)(u:aj)(q:Ending)(w':ah):Prop:=
 qG w.heap.size (· =rb) w w'/\xU w' rb (r.nums u)/\match zI (AV u)with
  |some p=>∃v,q=.returned v/\sF w' 0 v 1 p
  |none=>q=.returned .nilIface
theorem Qx{w w3 w':ah}{rb:Nat}{R:Rd}(hA:qG w.heap.size (· =rb) w w3)(hR:xU w3 rb R)(hb:Below w3.heap.size w3 w'):qG w.heap.size (· =rb) w w'/\xU w' rb R:=
 ⟨hA.trans (.qw (hb.mono hA.size)),ql.later hR (S:=λ_=>False) (.qw hb) (ql.lt hR) id⟩
def Qy(u:aj):aK:=[.int .i64 6,.int .i64 (le u 6 1:Nat),.int .i64 1,.int .i64 128,.int .i64 7,.int .i64 (le u 7 1:Nat),.int .i64 (le u 6 1:Nat),.int .i64 128,.int .i64 8,.int .i64 (le u 8 1:Nat),.int .i64 0,.int .i64 ((le u 7 1:Nat)-1),.int .i64 9,.int .i64 (le u 9 1:Nat),.int .i64 0,.int .i64 0,.int .i64 10,.int .i64 (le u 10 4:Nat),.int .i64 1,.int .i64 65536,.int .i64 14,.int .i64 (le u 14 4:Nat),.int .i64 4,.int .i64 300000,.int .i64 18,.int .i64 (le u 18 4:Nat),.int .i64 0,.int .i64 65536,.int .i64 22,.int .i64 (le u 22 2:Nat),.int .i64 0,.int .i64 0]
section
variable (rb:Nat)(r:Rd)(u:aj)(b off ct:Nat)(hu:u.length=24)(Ba:24<=ct)(hbr:b≠rb)(w:ah)(h:xU w rb r)(hB:xM w b off u)
include hu Ba hbr h hB in
theorem SN:
  Calls prog 132 #[.pointer (some ⟨rb,0,none⟩),.slice (some ⟨b,off,none⟩) 24 ct] w λq w'=>ab5 w rb r u q w':=by
 have hrb:=ql.lt h;have Ah:b<w.heap.size:=rY (hB 0 ag);have hA:=(qG.refl w.heap.size (· =rb) w).alloc (ay _) (.cells #[Value.slice (some ⟨b,off,none⟩) 24 ct] 24);have zh:ql (w.alloc (.cells #[Value.slice (some ⟨b,off,none⟩) 24 ct] 24)) w.heap.size [.slice (some ⟨b,off,none⟩) 24 ct] 24:=ql.made w _ _
 have hR0:xU (w.alloc (.cells #[Value.slice (some ⟨b,off,none⟩) 24 ct] 24)) rb r:=by unfold xU ql at*;rw[dI w _ rb hrb];exact h
 have PW:=hB.later hA Ah hbr;have hN:∀a n,n<=4->le u a n<2^32:=λa n hn=>bH (IZ u n a) awu
 go_enter func132,ntmps132
 go_upto_region 3 with(fail)
 obtain⟨bx,ebx⟩:∃bx,w.heap.size=bx:=⟨_,rfl⟩;have hxr:bx≠rb:=ag;have Gf:bx≠b:=ag;rw[ebx]at zh⊢;have EB:Hid (w.heap.size=bx):=ebx;clear ebx h hB;generalize w.alloc (.cells #[Value.slice (some ⟨b,off,none⟩) 24 ct] 24)=w0 at hA zh hR0 PW⊢;have f0:=ql.frozen hR0;have c0:=ql.cell hR0 (i:=0) rfl;have c1:=ql.cell hR0 (i:=1) rfl;have c2:=ql.cell hR0 (i:=2) rfl;have c3:=ql.cell hR0 (i:=3) rfl
 go_upto_region 4 with(first|(go_at_call 140;refine(CP _ b off ct u hu Ba _ _ 6 1 aF aF ag ag ag _ auv auA).mono ?_;rintro q w' ⟨rfl,sH⟩;obtain rfl:=sH.symm)|(go_at_call 140;refine(CP _ b off ct u hu Ba _ _ 7 1 aF aF ag ag ag _ auv auA).mono ?_;rintro q w' ⟨rfl,sH⟩;obtain rfl:=sH.symm)|(go_at_call 140;refine(CP _ b off ct u hu Ba _ _ 8 1 aF aF ag ag ag _ auv auA).mono ?_;rintro q w' ⟨rfl,sH⟩;obtain rfl:=sH.symm)|(go_at_call 140;refine(CP _ b off ct u hu Ba _ _ 10 4 aF aF ag ag ag _ auv auA).mono ?_;rintro q w' ⟨rfl,sH⟩;obtain rfl:=sH.symm))
 have TU:xU _ rb {r with k:=le u 6 1,n:=le u 7 1,i:=le u 8 1,c:=le u 10 4}:=(((ql.set hR0 0 (.int .i64 (le u 6 1:Nat))).set 1 (.int .i64 (le u 7 1:Nat))).set 2 (.int .i64 (le u 8 1:Nat))).set 3 (.int .i64 (le u 10 4:Nat));have Xk:qG w.heap.size (· =rb) w _:=(((hA.setCell (p:=⟨rb,0,none⟩) (.inr rfl) (.int .i64 (le u 6 1:Nat))).setCell (p:=⟨rb,1,none⟩) (.inr rfl) (.int .i64 (le u 7 1:Nat))).setCell (p:=⟨rb,2,none⟩) (.inr rfl) (.int .i64 (le u 8 1:Nat))).setCell (p:=⟨rb,3,none⟩) (.inr rfl) (.int .i64 (le u 10 4:Nat));have hAA:qG w0.heap.size (· =rb) w0 _:=((((qG.refl w0.heap.size (· =rb) w0).setCell (p:=⟨rb,0,none⟩) (.inr rfl) (.int .i64 (le u 6 1:Nat))).setCell (p:=⟨rb,1,none⟩) (.inr rfl) (.int .i64 (le u 7 1:Nat))).setCell (p:=⟨rb,2,none⟩) (.inr rfl) (.int .i64 (le u 8 1:Nat))).setCell (p:=⟨rb,3,none⟩) (.inr rfl) (.int .i64 (le u 10 4:Nat));have D5:=zh.later hAA zh.lt hxr;have yQ:=PW.later hAA (rY (PW 0 ag)) hbr;clear hAA hA zh PW hR0 f0 c0 c1 c2 c3;generalize(((w0.setCell ⟨rb,0,none⟩ (.int .i64 (le u 6 1:Nat))).setCell ⟨rb,1,none⟩ (.int .i64 (le u 7 1:Nat))).setCell ⟨rb,2,none⟩ (.int .i64 (le u 8 1:Nat))).setCell ⟨rb,3,none⟩ (.int .i64 (le u 10 4:Nat))=w1 at Xk D5 TU yQ⊢;have f0:=ql.frozen TU;have c7:=ql.cell TU (i:=7) rfl;have c8:=ql.cell TU (i:=8) rfl
 go_upto_region 5 with(first|(go_at_call 140;refine(CP _ b off ct u hu Ba _ _ 14 4 aF aF ag ag ag _ (by exact D5.cell rfl) (by exact yQ)).mono ?_;rintro q w' ⟨rfl,sH⟩;obtain rfl:=sH.symm)|(go_at_call 140;refine(CP _ b off ct u hu Ba _ _ 18 4 aF aF ag ag ag _ (by exact D5.cell rfl) (by exact yQ)).mono ?_;rintro q w' ⟨rfl,sH⟩;obtain rfl:=sH.symm))
 have LX:xU _ rb (r.nums u):=((ql.set TU 7 (.int .i64 (le u 14 4:Nat))).set 8 (.int .i64 (le u 18 4:Nat)));have N9:qG w.heap.size (· =rb) w _:=(Xk.setCell (p:=⟨rb,7,none⟩) (.inr rfl) (.int .i64 (le u 14 4:Nat))).setCell (p:=⟨rb,8,none⟩) (.inr rfl) (.int .i64 (le u 18 4:Nat));have hAA:qG w1.heap.size (· =rb) w1 _:=((qG.refl w1.heap.size (· =rb) w1).setCell (p:=⟨rb,7,none⟩) (.inr rfl) (.int .i64 (le u 14 4:Nat))).setCell (p:=⟨rb,8,none⟩) (.inr rfl) (.int .i64 (le u 18 4:Nat));have N8:=D5.later hAA D5.lt hxr;have zJ:=yQ.later hAA (rY (yQ 0 ag)) hbr;clear hAA Xk D5 yQ TU f0 c7 c8;generalize(w1.setCell ⟨rb,7,none⟩ (.int .i64 (le u 14 4:Nat))).setCell ⟨rb,8,none⟩ (.int .i64 (le u 18 4:Nat))=w2 at N9 N8 LX zJ⊢;have c0:=ql.cell LX (i:=0) rfl;have c1:=ql.cell LX (i:=1) rfl;have c2:=ql.cell LX (i:=2) rfl;have c3:=ql.cell LX (i:=3) rfl;have c7:=ql.cell LX (i:=7) rfl;have c8:=ql.cell LX (i:=8) rfl;simp only[Rd.nums]at c0 c1 c2 c3 c7 c8;have K9:=CP _ b off ct u hu Ba 9 1 9 1 rfl rfl ag ag ag w2.drew (show w2.drew.cell? _=_ from N8.cell rfl) (show xM w2.drew b off u from zJ);have K22:=CP _ b off ct u hu Ba 22 2 22 2 rfl rfl ag ag ag w2.drew (show w2.drew.cell? _=_ from N8.cell rfl) (show xM w2.drew b off u from zJ);have h7:=hN 7 1 ag;have HM:Hid _:=hN;clear hN
 go_region_held3 (λw'=>w'.cell? ⟨rb,0,none⟩=some (.int .i64 (le u 6 1:Nat))/\w'.cell? ⟨rb,1,none⟩=some (.int .i64 (le u 7 1:Nat))/\w'.cell? ⟨rb,2,none⟩=some (.int .i64 (le u 8 1:Nat))/\w'.cell? ⟨rb,3,none⟩=some (.int .i64 (le u 10 4:Nat))/\w'.cell? ⟨rb,7,none⟩=some (.int .i64 (le u 14 4:Nat))/\w'.cell? ⟨rb,8,none⟩=some (.int .i64 (le u 18 4:Nat))) (go_keep)
  (first|(go_at_call 140;with_reducible refine K9.mono ?_;rintro e w' ⟨rfl,sH⟩;obtain rfl:=sH.symm)|(go_at_call 140;with_reducible refine K22.mono ?_;rintro e w' ⟨rfl,sH⟩;obtain rfl:=sH.symm))
 have RU:IntKind.i64.wrap ((le u 7 1:Nat)-1:Int)=(le u 7 1:Nat)-1:=dH _ ag;rw[RU];clear RU K9 K22 c0 c1 c2 c3 c7 c8;have Tj:qG w.heap.size (· =rb) w _:=(N9.alloc (by have:=N9.size;omega) (.cells (Qy u).toArray 211)).drew
 have hR3:xU ((w2.alloc (.cells (Qy u).toArray 211)).drew) rb (r.nums u):=by have:=ql.later LX (S:=λ_=>False) ((qG.refl w2.heap.size _ w2).alloc (ay _) (.cells (Qy u).toArray 211)) (ql.lt LX) id;exact this
 have Gg:ql ((w2.alloc (.cells (Qy u).toArray 211)).drew) w2.heap.size (Qy u) 211:=ql.made w2 _ _;unfold Qy at Tj hR3 Gg;obtain⟨g,eg⟩:∃g,w2.heap.size=g:=⟨_,rfl⟩;rw[eg]at Gg⊢;generalize(w2.alloc _).drew=w3 at Tj hR3 Gg⊢;clear N9 LX N8 zJ eg
 have QK:∀c,c<8->∃(p v:Nat)(lo hi:Int),(AV u).drop c=(p,v,lo,hi)::(AV u).drop (c+1)/\w3.cell? ⟨g,c*4,none⟩=some (.int .i64 (p:Int))/\w3.cell? ⟨g,c*4+1,none⟩=some (.int .i64 (v:Int))/\w3.cell? ⟨g,c*4+2,none⟩=some (.int .i64 lo)/\w3.cell? ⟨g,c*4+3,none⟩=some (.int .i64 hi):=by
  intro c hc
  match c,hc with
  |0,_=>exact⟨6,_,_,_,rfl,Gg.cell rfl,Gg.cell rfl,Gg.cell rfl,Gg.cell rfl⟩
  |1,_=>exact⟨7,_,_,_,rfl,Gg.cell rfl,Gg.cell rfl,Gg.cell rfl,Gg.cell rfl⟩
  |2,_=>exact⟨8,_,_,_,rfl,Gg.cell rfl,Gg.cell rfl,Gg.cell rfl,Gg.cell rfl⟩
  |3,_=>exact⟨9,_,_,_,rfl,Gg.cell rfl,Gg.cell rfl,Gg.cell rfl,Gg.cell rfl⟩
  |4,_=>exact⟨10,_,_,_,rfl,Gg.cell rfl,Gg.cell rfl,Gg.cell rfl,Gg.cell rfl⟩
  |5,_=>exact⟨14,_,_,_,rfl,Gg.cell rfl,Gg.cell rfl,Gg.cell rfl,Gg.cell rfl⟩
  |6,_=>exact⟨18,_,_,_,rfl,Gg.cell rfl,Gg.cell rfl,Gg.cell rfl,Gg.cell rfl⟩
  |7,_=>exact⟨22,_,_,_,rfl,Gg.cell rfl,Gg.cell rfl,Gg.cell rfl,Gg.cell rfl⟩
 have hg3:g<w3.heap.size:=Gg.lt;clear Gg h7 HM hu Ba hbr;go_wp2
 go_loopw [90] (λvi wr=>∃c:Nat,c<=8/\vi=.int .i64 (c:Int)/\Below w3.heap.size w3 wr/\Hid (zI (AV u)=zI ((AV u).drop c))) (λi _=>8-(intOf i).toNat)
 case atStart=>exact⟨0,ag,rfl,aO _ _,rfl⟩
 case round=>
  obtain⟨c,hc,rfl,hb,H⟩:=hrel;by_cases qB:c<8
  .obtain⟨p,v,lo,hi,e1,d0,d1,d2,d3⟩:=QK c qB
   have H2:Hid (zI (AV u)=if(v:Int)<lo\/hi<(v:Int)then some p else zI ((AV u).drop (c+1))):=by show _=_;rw[H.out,e1];rfl
   rw[<-hb.cell (p:=⟨g,c*4,none⟩) hg3]at d0;rw[<-hb.cell (p:=⟨g,c*4+1,none⟩) hg3]at d1;rw[<-hb.cell (p:=⟨g,c*4+2,none⟩) hg3]at d2;rw[<-hb.cell (p:=⟨g,c*4+3,none⟩) hg3]at d3;clear QK e1 H;by_cases q1:(v:Int)<lo
   .have HB:Hid (zI (AV u)=some p):=by show _=_;rw[H2.out,ax (.inl q1)]
    go_wp2_with(first|(go_at_call 49;refine(AA _ _ 1 p aF aF _).mono ?_;rintro q w5 ⟨v5,rfl,g1,g2⟩))
    exact ayt
   .by_cases q2:hi<(v:Int)
    .have HB:Hid (zI (AV u)=some p):=by show _=_;rw[H2.out,ax (.inr q2)]
     go_wp2_with(first|(go_at_call 49;refine(AA _ _ 1 p aF aF _).mono ?_;rintro q w5 ⟨v5,rfl,g1,g2⟩))
     exact ayt
    .have HB:Hid (zI (AV u)=zI ((AV u).drop (c+1))):=by
      show _=_;rw[H2.out,au ag]
     clear H2;go_wp2
     go_roundw
     case rel=>exact⟨c+1,ag,aV,by first|exact hb.alloc hb.size _|exact(hb.alloc hb.size _).setCell au9 _,HB⟩
     case measure=>simp[intOf];omega
  .obtain rfl:c=8:=ag;have HB:Hid (zI (AV u)=none):=H;clear QK;go_wp2;go_ret;obtain⟨z1,z2⟩:=Qx Tj hR3 hb;refine⟨z1,z2,?_⟩;rw[HB.out];exact rfl
end
def uq(B:Nat)(w:ah)(rb:Nat)(s:St)(t:aj)(vN vS vC vT:ai)(R:Except (Nat×Nat) St)(D:Nat)(q:Ending)(w':ah):Prop:=
 qG w.heap.size (qQ rb vC vT) w w'/\match R with
 | .error e=>(∃v d,d<=D/\q=.returned v/\sF w' d v e.1 e.2)/\(∃r',xU w' rb r')/\(e.1=4->RI B w' rb s t vN vS vC vT)
 | .ok s'=>q=.returned .nilIface/\∃OT OU DX,RI B w' rb s' t OT OU DX vT/\(DX.ownBlock=vC.ownBlock\/∃g,DX.ownBlock=some g/\w.heap.size<=g)
theorem RI.below{B rb:Nat}{w w':ah}{s:St}{t:aj}{vN vS vC vT:ai}(I:RI B w rb s t vN vS vC vT)(hb:Below w.heap.size w w'):RI B w' rb s t vN vS vC vT:=by
 have key:∀{e n:Nat}{v:ai}{xs:aK},w.ownsRow B e 1 v n xs->w'.ownsRow B e 1 v n xs:=λh=>qY h (λg um=>hb.block g (h.lt g um).2)
 exact⟨ql.later I.rd (S:=λ_=>False) (.qw hb) (ql.lt I.rd) id,key I.on,key I.os,key I.oc,key I.ot,I.ap,bF I.size hb.size⟩
theorem uq.fault{B:Nat}{w w':ah}{rb:Nat}{s:St}{t:aj}{vN vS vC vT v:ai}{e:Nat×Nat}{d D:Nat}(I:RI B w rb s t vN vS vC vT)(hd:d<=D)(h:sF w' d v e.1 e.2)(hb:Below w.heap.size w w'):uq B w rb s t vN vS vC vT (.error e) D (.returned v) w':=
 ⟨.qw hb,⟨v,d,hd,rfl,h⟩,⟨_,(I.below hb).rd⟩,λ_=>I.below hb⟩
theorem yO{w w':ah}{j:Nat}(h:Below (w.drewN j).heap.size (w.drewN j) w'):Below w.heap.size w w':=⟨h.os,h.tape,h.output,h.size,h.block⟩
theorem RI.turn{B rb:Nat}{w w':ah}{s s':St}{t:aj}{vN vS vC vT:ai}(I:RI B w rb s t vN vS vC vT)(hB:qG w.heap.size (· =rb) w w')(hR:xU w' rb (s'.rd vN vS vC vT .nilIface))(h1:s'.ns=s.ns)(h2:s'.zs=s.zs)(h3:s'.qC=s.qC):RI B w' rb s' t vN vS vC vT:=by
 have key:∀{e n:Nat}{v:ai}{xs:aK},w.ownsRow B e 1 v n xs->e≠102->w'.ownsRow B e 1 v n xs:=λh he=>qY h (λg um=>hB.block g (h.lt g um).2 (λe=>uK h I.rd he (by rw[um,e])))
 exact⟨hR,by rw[h1];exact key I.on aB,by rw[h2];exact key I.os aB,by rw[h3];exact key I.oc aB,key I.ot aB,I.ap,bF I.size hB.size⟩
theorem ad_{t:aj}:AV (part t 0 24)=AV t:=by
 have h:∀a n,a+n<=24->le (part t 0 24) a n=le t a n:=λa n hn=>awG
 unfold AV;rw[h 6 1 ag,h 7 1 ag,h 8 1 ag,h 9 1 ag,h 10 4 ag,h 14 4 ag,h 18 4 ag,h 22 2 ag]
section
variable (B rb:Nat)(s:St)(t:aj)(vN vS vC vT:ai)(hb:Bd s)(ht:t.length<=s.sz)(w:ah)(I:RI B w rb s t vN vS vC vT)(uX:LQ w)
include hb ht I in
theorem ZP(Nh:s.nx=3):Calls prog 122 #[.pointer (some ⟨rb,0,none⟩)] w λq w'=>uq B w rb s t vN vS vC vT (MV s t) 0 q w':=by
 obtain⟨bc,cc,eC,hcc⟩:=I.oc.slice;obtain⟨bt,ct,eT,Ba⟩:=I.ot.slice;have hz:=St.XP hb
 have KB:Calls prog 130 #[.pointer (some ⟨rb,0,none⟩),.string ⟨#[68,79,78,69]⟩] w λq w'=>Ir w t xm s.pl q w':=
  Vx rb (s.rd vN vS vC vT .nilIface) t xm aB ag mM w I.rd I.ot.lies
 have KY:=λj=>X_ rb (s.rd vN vS vC vT .nilIface) bc s.qC.length cc eC mO mQ mP hb.qC nX bt t.length ct eT (w.drewN j) I.rd
 have KN:=λj=>ab3 rb (s.rd vN vS vC vT .nilIface) bc s.qC.length cc eC mO mQ mP hb.qC nX bt t.length ct eT ag mM (w.drewN j) I.rd
 have hsz:yM s.nx s.c s.m s.ln s.qC.length=s.sz:=rfl;simp only[St.rd,hsz]at KY KN;unfold MV;cases RV:EG t xm with
 |some i=>
  have HB:Hid (EG t xm=some i):=RV;clear KY KN RV;unfold Ir at KB;rw[HB.out]at KB;simp only at KB;go_enter func122,ntmps122
  go_wp2_with(first|(go_at_call 130;refine KB.mono ?_;rintro q w2 ⟨v,rfl,g1,g2⟩;obtain⟨ty,x,rfl⟩:=g1.iface))
  go_ret;exact uq.fault I (ay _) g1 g2
 |none=>
  unfold Ir at KB;rw[RV]at KB;simp only at KB⊢;by_cases q:t.length<s.sz
  .rw[ax q];have K:=λj=>KN j q
   clear KY KN RV;go_enter func122,ntmps122
   go_wp2_with(first|(go_at_call 130;refine KB.mono ?_;rintro q w2 ⟨rfl,j,xI⟩;obtain rfl:=xI.symm)|(go_at_call 136;refine(K _).mono ?_;rintro q w2 ⟨v,rfl,g1,g2⟩))
   go_ret;exact uq.fault I (ay _) g1 (yO g2)
  .rw[au q];have K:=λj=>KY j ag
   clear KY KN RV;go_enter func122,ntmps122
   go_wp2_with(first|(go_at_call 130;refine KB.mono ?_;rintro q w2 ⟨rfl,j,xI⟩;obtain rfl:=xI.symm)|(go_at_call 136;refine(K _).mono ?_;rintro q w2 ⟨rfl,j2,xI⟩;obtain rfl:=xI.symm))
   go_ret;refine⟨((qG.refl _ _ _).drewN _),rfl,vN,vS,vC,I.drewN _,.inl rfl⟩
include hb ht I uX in
theorem ZO(Nh:s.nx=0):Calls prog 119 #[.pointer (some ⟨rb,0,none⟩)] w λq w'=>uq B w rb s t vN vS vC vT (MR s t) 0 q w':=by
 obtain⟨bc,cc,eC,hcc⟩:=I.oc.slice;obtain⟨bt,ct,eT,Ba⟩:=I.ot.slice;have hz:=St.XP hb;have xY:=sz0 Nh
 have KB:Calls prog 130 #[.pointer (some ⟨rb,0,none⟩),.string ⟨#[67,65,73,82,78,49]⟩] w λq w'=>Ir w t vJ s.pl q w':=
  Vx rb (s.rd vN vS vC vT .nilIface) t vJ aB ag mM w I.rd I.ot.lies
 have KS:=λj=>J4 rb (s.rd vN vS vC vT .nilIface) bc s.qC.length cc eC mO mQ mP hb.qC nX t bt ct eT ag mM (w.drewN j) I.rd I.ot.lies (uX.heap rfl)
 have hsz:yM s.nx s.c s.m s.ln s.qC.length=s.sz:=rfl;simp only[St.rd,hsz]at KS;have hSP:MP s.sz s.pl t=Ad s t:=rfl;simp only[hSP]at KS;unfold MR;cases RV:EG t vJ with
 |some i=>
  have HB:Hid (EG t vJ=some i):=RV;clear KS RV;unfold Ir at KB;rw[HB.out]at KB;simp only at KB;go_enter func119,ntmps119
  go_wp2_with(first|(go_at_call 130;refine KB.mono ?_;rintro q w2 ⟨v,rfl,g1,g2⟩;obtain⟨ty,x,rfl⟩:=g1.iface))
  go_ret;exact uq.fault I (ay _) g1 g2
 |none=>
  unfold Ir at KB;rw[RV]at KB;simp only at KB⊢;cases N_:Ad s t with
  |some e=>
   unfold zH at KS;rw[N_]at KS;simp only at KS⊢;clear RV N_;go_enter func119,ntmps119
   go_wp2_with(first|(go_at_call 130;refine KB.mono ?_;rintro q w2 ⟨rfl,j,xI⟩;obtain rfl:=xI.symm)|(go_at_call 131;refine(KS _).mono ?_;rintro q w2 ⟨v,rfl,g1,g2⟩;obtain⟨ty,x,rfl⟩:=g1.iface))
   go_ret;exact uq.fault I (ay _) g1 (yO g2)
  |none=>
   unfold zH at KS;rw[N_]at KS;simp only at KS⊢
   have asj:t.length=32:=by
    unfold Ad at N_;split at N_
    .cases N_
    .omega
   have hby:∃b off,bt=some ⟨b,off,none⟩/\xM w b off t/\b≠rb:=by exact ayy
   obtain⟨b,off,rfl,hB,hbr⟩:=hby
   have hu:(part t 0 24).length=24:=qF ag;have KR:=λj=>SN rb (s.rd vN vS vC vT .nilIface) (part t 0 24) b off ct hu ag hbr (w.drewN j) I.rd (by have:=hB.part (a:=0) (n:=24) ag;exact this)
   unfold ab5 at KR;rw[ad_]at KR;have hle:∀a n,a+n<=24->le (part t 0 24) a n=le t a n:=λa n hn=>awG
   have hrd:(s.rd vN vS vC vT .nilIface).nums (part t 0 24)=({s with k:=le t 6 1,n:=le t 7 1,i:=le t 8 1,c:=le t 10 4,m:=le t 14 4,ln:=le t 18 4}:St).rd vN vS vC vT .nilIface:=by unfold Rd.nums St.rd;simp only;rw[hle 6 1 ag,hle 7 1 ag,hle 8 1 ag,hle 10 4 ag,hle 14 4 ag,hle 18 4 ag]
   rw[hrd]at KR;rw[asj]at KS;simp only[show 32-8=24 from rfl]at KS;have hBM:∀{j:Nat}{w':ah},qG (w.drewN j).heap.size (· =rb) (w.drewN j) w'->qG w.heap.size (· =rb) w w':=λh=>((qG.refl w.heap.size _ w).drewN _).trans h
   clear RV N_ hle hrd;cases hnu:zI (AV t)with
   |some p=>
    rw[hnu]at KR;simp only at KR⊢;clear hnu;go_enter func119,ntmps119
    go_wp2_with(first|(go_at_call 130;refine KB.mono ?_;rintro q w2 ⟨rfl,j,xI⟩;obtain rfl:=xI.symm)|(go_at_call 131;refine(KS _).mono ?_;rintro q w2 ⟨rfl,j2,xI⟩;obtain rfl:=xI.symm)|(go_at_call 132;refine(KR _).mono ?_;rintro q w3 ⟨g1,g2,v,rfl,g3⟩))
    go_ret;exact⟨(hBM g1).mono (ay _) (λ_ x=>.inl x),⟨v,0,ay _,rfl,g3⟩,⟨_,g2⟩,λh=>gp⟩
   |none=>
    rw[hnu]at KR;simp only at KR⊢;clear hnu;go_enter func119,ntmps119
    go_wp2_with(first|(go_at_call 130;refine KB.mono ?_;rintro q w2 ⟨rfl,j,xI⟩;obtain rfl:=xI.symm)|(go_at_call 131;refine(KS _).mono ?_;rintro q w2 ⟨rfl,j2,xI⟩;obtain rfl:=xI.symm)|(go_at_call 132;refine(KR _).mono ?_;rintro q w3 ⟨g1,g2,rfl⟩))
    go_ret;exact⟨(hBM g1).mono (ay _) (λ_ x=>.inl x),rfl,vN,vS,vC,I.turn (hBM g1) g2 rfl rfl rfl,.inl rfl⟩
end
theorem aea(u:aj)(F:Int):U3 u F=match VB u F with|some m=>(m:Int)|none=> -1:=rfl
theorem ab6(k i t:Nat)(hk:1<=k)(ht:t<=65536):0<=Fv k i t/\Fv k i t<=65536:=by have h1:=G_ hk t;unfold Fv;split<;>omega
theorem RI.column{B rb:Nat}{w w1:ah}{s:St}{t x:aj}{vN vS vC vT v1:ai}(I:RI B w rb s t vN vS vC vT)(h1:BK B w1 v1 (s.qC++x))(hg:w.grownBy w1 vC.ownBlock)(hk:v1.ownBlock=vC.ownBlock\/v1.ownBlock=some w.heap.size):
  RI B (w1.setCell ⟨rb,6,none⟩ v1) rb {s with qC:=s.qC++x} t vN vS v1 vT/\qG w.heap.size (qQ rb vC vT) w (w1.setCell ⟨rb,6,none⟩ v1)/\w1.cell? ⟨rb,6,none⟩=some vC/\w1.frozen? ⟨rb,6,none⟩=false:=by
 have apd:=ql.lt I.rd;have hT:=uK I.oc I.rd aB
 have TU:xU w1 rb (s.rd vN vS vC vT .nilIface):=by exact ayq
 have key:∀{e n:Nat}{v:ai}{xs:aK},w.ownsRow B e 1 v n xs->NR v vC->w1.ownsRow B e 1 v n xs:=λh ha=>qY h (λg um=>hg.block g (h.lt g um).2 (λe=>ha g um e.symm))
 have hN1:=key I.on (Iu I.on I.oc aB);have AZ:=key I.os (Iu I.os I.oc aB);have hT1:=key I.ot (λg h1 h2=>I.ap g h2 h1);have LX:xU (w1.setCell ⟨rb,6,none⟩ v1) rb (({s with qC:=s.qC++x}:St).rd vN vS v1 vT .nilIface):=ql.set TU 6 v1;refine⟨⟨LX,uY hN1 (uK hN1 TU aB),uY AZ (uK AZ TU aB),uY h1 (uK h1 TU aB),uY hT1 (uK hT1 TU aB),?_,?_⟩,?_,ql.cell TU (i:=6) rfl,ql.frozen TU 6⟩
 .intro g Ko Oe;rcases hk with e|e
  .exact I.ap g (e▸Ko) Oe
  .have h2:=(kH I.ot g Oe).2;rw[e]at Ko;cases Ko;omega
 .have:=I.size;have:=hg.size;simp;omega
 .exact qG.setCell (qG.mono (qG.aba hg) (ay _) (λk hk=>.inr (.inl hk))) (p:=⟨rb,6,none⟩) (.inr (.inl rfl)) v1
section
variable (B rb:Nat)(s:St)(t:aj)(vN vS vC vT:ai)(hb:Bd s)(ht:t.length<=s.sz)(w:ah)(I:RI B w rb s t vN vS vC vT)(uX:LQ w)
include hb ht I uX in
theorem WW(Nh:s.nx=2)(NU:1<=s.k)(SY:s.k<=128)(hi:s.i<=128)(htt:s.tt<=65536):Calls prog 121 #[.pointer (some ⟨rb,0,none⟩)] w λq w'=>uq B w rb s t vN vS vC vT (F6 s t) 0 q w':=by
 obtain⟨bc,cc,eC,hcc⟩:=I.oc.slice;obtain⟨bt,ct,eT,Ba⟩:=I.ot.slice;have hz:=St.XP hb;have KS:=J4 rb (s.rd vN vS vC vT .nilIface) bc s.qC.length cc eC mO mQ mP hb.qC nX t bt ct eT ag mM w I.rd I.ot.lies uX;have hsz:yM s.nx s.c s.m s.ln s.qC.length=s.sz:=rfl;simp only[St.rd,hsz]at KS;have hSP:MP s.sz s.pl t=Ad s t:=rfl;simp only[hSP]at KS;unfold F6;cases N_:Ad s t with
 |some e=>
  unfold zH at KS;rw[N_]at KS;simp only at KS⊢;clear N_;go_enter func121,ntmps121
  go_wp2_with(first|(go_at_call 131;refine KS.mono ?_;rintro q w2 ⟨v,rfl,g1,g2⟩;obtain⟨ty,x,rfl⟩:=g1.iface))
  go_ret;exact uq.fault I (ay _) g1 g2
 |none=>
  unfold zH at KS;rw[N_]at KS;simp only at KS⊢;have vV:=sz2 Nh
  have hl8:t.length=s.sz:=by
   unfold Ad at N_;split at N_
   .cases N_
   .omega
  obtain⟨b,off,ebt,hB⟩:∃b off,bt=some ⟨b,off,none⟩/\xM w b off t:=by have hot:=I.ot;unfold BK at hot;obtain⟨g,c,e,_,_,_,_,hB⟩:=U0 hot ag;rw[eT]at e;cases e;exact⟨g,0,rfl,hB⟩
  subst ebt;obtain⟨q,eq⟩:∃q,t.length-8=q:=⟨_,rfl⟩;have hq:q+8=t.length:=ag;have Yy:s.qC.length+q<=s.ln:=by have:=hb.qC;omega
  have hu:(part t 0 q).length=q:=qF ag;have hBu:xM w b off (part t 0 q):=by have:=hB.part (a:=0) (n:=q) ag;exact this
  have hLu:qP w (.slice (some ⟨b,off,none⟩) q ct) (rP (part t 0 q)):=by refine⟨_,ct,by rw[ru,hu],by rw[ru,hu];omega,λj u hj=>⟨b,off,rfl,?_⟩⟩;obtain⟨h1,rfl⟩:=JE hj;exact hBu j h1
  rw[eq]at KS⊢;have Je:=hb.ln;have uD:=hb.pl;have hF:=ab6 s.k s.i s.tt NU htt;have KU:=λj=>ai9 (s.k:Int) (s.i:Int) (s.tt:Int) s.k s.i s.tt rfl rfl rfl NU ag ag htt (w.drewN j)
  have KF:=λj=>adl (Fv s.k s.i s.tt-(s.qC.length:Int)) ag _ (part t 0 q) ag (w.drewN j) (hLu.drewN j)
  rw[aea]at KF;have c0:=ql.cell I.rd (i:=0) rfl;have c2:=ql.cell I.rd (i:=2) rfl;have c6:=ql.cell I.rd (i:=6) rfl;have c9:=ql.cell I.rd (i:=9) rfl;have TT:=ql.cell I.rd (i:=11) rfl;have f6:=ql.frozen I.rd 6;simp only[St.rd]at c0 c2 c6 c9 TT;subst eC;obtain⟨us,eus⟩:∃us,Fv s.k s.i s.tt=us:=⟨_,rfl⟩;rw[eus]at KU KF hF⊢;have RU:IntKind.i64.wrap (us-(s.qC.length:Int))=us-(s.qC.length:Int):=dH _ ag;clear N_ hl8 eq hsz hSP eus;cases hp:VB (part t 0 q) (us-(s.qC.length:Int))with
  |some m=>
   rw[hp]at KF;simp only at KF⊢;have hm:m<q:=by have:=(MW.1 hp).1;omega
   obtain⟨pl,Wq⟩:∃pl,s.pl=pl:=⟨_,rfl⟩;rw[Wq]at TT uD⊢;have Xi:IntKind.i64.wrap ((pl:Int)+(m:Int))=(pl:Int)+(m:Int):=dH _ ag;clear hp;go_enter func121,ntmps121
   go_wp2_with(first|(go_at_call 131;refine KS.mono ?_;rintro q w2 ⟨rfl,j,xI⟩;obtain rfl:=xI.symm))
   go_big_quiet (first|(go_at_call 134;exact(KU _).mono (λ_ _ h=>⟨h.1,_,h.2⟩)))
   go_wp2_with(first|(go_at_call 135;refine(KF _).mono ?_;rintro q w2 ⟨rfl,xI⟩;obtain rfl:=xI.symm)|(go_at_call 49;refine(AA _ _ 8 (pl+m) aF aA _).mono ?_;rintro q w2 ⟨v,rfl,g1,g2⟩))
   go_ret;exact uq.fault I (ay _) g1 (yO g2)
  |none=>
   rw[hp]at KF;simp only at KF⊢;clear hp;have hot:=I.oc;unfold BK at hot;have hBs:=I.size;have LP:=hb.qC;obtain⟨i0,zo,xY,wW,hz3⟩:=cO Hy;have FK:∀j u,(rP (part t 0 q))[j]?=some u->w.cell? ((⟨b,off,none⟩:Addr).add j)=some u:=xM.news hBu;go_enter func121,ntmps121
   go_wp2_with(first|(go_at_call 131;refine KS.mono ?_;rintro q w2 ⟨rfl,j,xI⟩;obtain rfl:=xI.symm))
   go_big_quiet (first|(go_at_call 134;exact(KU _).mono (λ_ _ h=>⟨h.1,_,h.2⟩)))
   go_wp2_with(first|(go_at_call 135;refine(KF _).mono ?_;rintro q w2 ⟨rfl,xI⟩;obtain rfl:=xI.symm)|(at_builtin;refine wpList_append_own_at _ rfl _ _ 24 rfl B 5 i0 (.int .u8 0) 1 1 underlying24 zo xY wW hz3 rfl aB _ _ _ rfl auy ⟨b,off,none⟩ q ct (rP (part t 0 q)) rfl (by rw[ru,hu];omega) (by exact FK) (KJ _) bT ag (by exact hBs) ?_;intro v2 w2 vH wS _ xJ;have ow:=ZQ vH;obtain⟨b2,c3,rfl,hc3⟩:=ow.slice;obtain⟨J,hJ,x6,y6⟩:=RI.column (I.drewN _) ow wS xJ))
   go_ret;have e2:(s.qC++part t 0 q).length=s.qC.length+q:=by rw[bM,hu]
   rw[e2]at J hJ xJ;refine⟨((qG.refl w.heap.size _ w).drewN _).trans hJ,rfl,vN,vS,_,J,?_⟩;rcases xJ with e|e
   .exact .inl e
   .exact .inr ⟨_,e,ay _⟩
end
def lsL(v:ai)(pl a:Nat)(vN vS:ai)(tt:Nat):aK:=[v,.int .i64 (pl:Int),.int .i64 (a:Int),vN,vS,.int .i64 (tt:Int)]
def DK(w:ah)(lb:Nat)(v:ai)(pl a:Nat)(vN vS:ai)(tt:Nat):Prop:=ql w lb (lsL v pl a vN vS tt) 208
section
variable (lb:Nat)(v:ai)(pl a:Nat)(vN vS:ai)(tt:Nat)(uD:pl<=1000000000000)(ha:a<=1000000000)(w:ah)(h:DK w lb v pl a vN vS tt)
include uD ha h in
theorem BH(X:Int)(x p:Nat)(hX:X=x)(hx:x<=1000000000)(hp:p=pl+a+x):
  Calls prog 141 #[.pointer (some ⟨lb,0,none⟩),.int .i64 X] w λq w'=>xW w 0 7 p q w':=by
 subst hX;have c1:=ql.cell h (i:=1) rfl;have c2:=ql.cell h (i:=2) rfl;have RU:IntKind.i64.wrap ((pl:Int)+(a:Int))=(pl:Int)+(a:Int):=dH _ ag;have Xi:IntKind.i64.wrap ((pl:Int)+(a:Int)+(x:Int))=(pl:Int)+(a:Int)+(x:Int):=dH _ ag;have HP:Hid (p=pl+a+x):=hp;clear h hp;go_enter func141,ntmps141
 go_wp2_with fail
 refine CE 11 mixed ak ?_;simp only[jc,gG,jm,ik]
 repeat (first|go_big_quiet_skip|(go_big_quiet_want;go_big_quiet_op;go_big_quiet_on))
 refine wpQuiet_nil ?_
 go_wp2_with(first|(go_at_call 49;refine(AA _ _ 7 p aF (by rw[HP.out];simp) _).mono ?_;rintro q w2 ⟨v,rfl,g1,g2⟩))
 go_ret;exact xW.GU (j:=1) ⟨_,rfl,g1,g2⟩
end
section
variable (lb:Nat)(b off ct:Nat)(u:aj)(pl a:Nat)(vN vS:ai)(tt:Nat)(hu:u.length<=1000000)(Ba:u.length<ct)(ha:a<=u.length)(w:ah)(h:DK w lb (.slice (some ⟨b,off,none⟩) u.length ct) pl a vN vS tt)(hB:xM w b off u)
theorem Iw(bb bo len cap:Nat)(L:Int)(a:Nat)(hL:L=a)(hc:a<=len)(ha:a<cap):∀w,(Instr.slice 24 (.slice (some ⟨bb,bo,none⟩) len cap) (some (.int .i64 L)) none none).run prog w=.ok (.slice (some ⟨bb,bo+a,none⟩) (len-a) (cap-a)) w:=by
 intro w;subst hL;have hu:prog.underlying 24=some (.slice (prog.elem 24)):=underlying24;rw[run_slice_l w 24 _ _ _ hu .i64 a ag ag]
 have hsz:(sizeOf (prog.elem 24)).run prog w=.ok 1 w:=by simp[sizeOf,go_sem];rfl
 exact ax1
include Ba ha h in
theorem Qz(hs:u.length<a+6):
  Calls prog 144 #[.pointer (some ⟨lb,0,none⟩)] w λq w'=>q=.returned (.tuple #[.int .i64 0,.bool false])/\∃j,w'=w.drewN j:=by
 have c0:=ql.cell h (i:=0) rfl;have c2:=ql.cell h (i:=2) rfl;have sl:=Iw b off u.length ct (a:Int) a rfl ha ag;obtain⟨d,ed⟩:∃d,u.length-a=d:=⟨_,rfl⟩;have hd:d<6:=ag;rw[ed]at sl;clear h ed hs;go_enter func144,ntmps144
 go_wp2_with fail
 go_big_quiet (fail)
 go_wp2;go_ret2;exact⟨rfl,_,rfl⟩
include hu Ba ha h hB in
theorem AX(hs:a+6<=u.length):
  Calls prog 144 #[.pointer (some ⟨lb,0,none⟩)] w λq w'=>q=.returned (.tuple #[.int .i64 (le u a 2:Nat),.bool (decide (1<=le u a 2/\le u a 2<=255/\a+6+le u a 2<=u.length))])/\∃j,w'=w.drewN j:=by
 have c0:=ql.cell h (i:=0) rfl;have c2:=ql.cell h (i:=2) rfl;have sl:=Iw b off u.length ct (a:Int) a rfl ha ag;have hP:(part u a 2).length=2:=qF ag;have K:=λn cap=>xe b (off+a) 2 cap (part u a 2) hP ag (w.drewN n) (hB.part ag)
 have hle:le (part u a 2) 0 2=le u a 2:=by simp only[le];rw[uV ag,uV ag];rfl
 have qB:le u a 2<65536:=IZ u 2 a;rw[hle]at K;obtain⟨y,ey⟩:∃y,le u a 2=y:=⟨_,rfl⟩;rw[ey]at K qB⊢;obtain⟨d,ed⟩:∃d,u.length-a=d:=⟨_,rfl⟩;have hd:6<=d:=ag;have hd2:d<=1000000:=ag;obtain⟨ce,ece⟩:∃ce,ct-a=ce:=⟨_,rfl⟩;have hce:6<=ce:=ag;rw[ed,ece]at sl
 have HQ:Hid (decide (1<=y/\y<=255/\a+6+y<=u.length)=decide (1<=y/\y<=255/\y+6<=d)):=by
  show decide _=decide _
  congr 1
  apply propext;omega
 rw[HQ.out];clear h ed ece hs hle hP hB ey HQ;by_cases q1:1<=y
 .by_cases q2:y<=255
  .by_cases q3:y+6<=d
   all_goals
    first|(have HE:Hid (decide (1<=y/\y<=255/\y+6<=d)=true):=(show _=_ by simp;omega))|(have HE:Hid (decide (1<=y/\y<=255/\y+6<=d)=false):=(show _=_ by simp;omega))
    rw[HE.out];clear HE;go_enter func144,ntmps144
    go_wp2_with fail
    go_big_quiet (fail)
    go_wp2_with(first|(go_at_call 139;refine(K _ _).mono ?_;rintro q w' ⟨rfl,sH⟩;obtain rfl:=sH.symm))
    try go_big_quiet (fail)
    try go_wp2
    exact axw
  .have HE:Hid (decide (1<=y/\y<=255/\y+6<=d)=false):=(show _=_ by simp;omega);rw[HE.out];clear HE;go_enter func144,ntmps144
   go_wp2_with fail
   go_big_quiet (fail)
   go_wp2_with(first|(go_at_call 139;refine(K _ _).mono ?_;rintro q w' ⟨rfl,sH⟩;obtain rfl:=sH.symm))
   try go_big_quiet (fail)
   try go_wp2
   exact axw
 .have HE:Hid (decide (1<=y/\y<=255/\y+6<=d)=false):=(show _=_ by simp;omega);rw[HE.out];clear HE;go_enter func144,ntmps144
  go_wp2_with fail
  go_big_quiet (fail)
  go_wp2_with(first|(go_at_call 139;refine(K _ _).mono ?_;rintro q w' ⟨rfl,sH⟩;obtain rfl:=sH.symm))
  try go_big_quiet (fail)
  try go_wp2
  exact axw
end
structure LsI(B:Nat)(w:ah)(lb b off ct:Nat)(u:aj)(pl a:Nat)(vN vS:ai)(ns:List (aj))(zs:aC):Prop where
 ls:DK w lb (.slice (some ⟨b,off,none⟩) u.length ct) pl a vN vS zs.sum
 on:w.ownsRow B 9 1 vN ns.length (zC ns)
 os:w.ownsRow B 3 1 vS zs.length (uH zs)
 ap:NR vN vS
 LV:xM w b off u
 size:B<=w.heap.size
def GV(B:Nat)(w:ah)(lb b off ct:Nat)(u:aj)(pl a:Nat)(ns:List (aj))(zs:aC)(q:Ending)(w':ah):Prop:=
 match yh u a ns zs with
 | .error p=>xW w 0 7 (pl+p) q w'
 | .ok (nm,z)=>q=.returned .nilIface/\qG B (· =lb) w w'/\∃vN vS,LsI B w' lb b off ct u pl (a+(6+nm.length)) vN vS (ns++[nm]) (zs++[z])
theorem DK.drewN{w:ah}{lb:Nat}{v:ai}{pl a:Nat}{vN vS:ai}{tt:Nat}(h:DK w lb v pl a vN vS tt)(j:Nat):DK (w.drewN j) lb v pl a vN vS tt:=h
section
variable (B lb b off ct:Nat)(u:aj)(pl a:Nat)(vN vS:ai)(ns:List (aj))(zs:aC)(Nk:lb<B)(RZ:b<B)(QN:lb≠b)(hu:u.length<=1000000)(Ba:u.length<ct)(ha:a<=u.length)(uD:pl<=1000000000000)(VS:ns.length<1000)(Xd:zs.length=ns.length)(hzs:zs.sum<=65536)(w:ah)(I:LsI B w lb b off ct u pl a vN vS ns zs)
include hu Ba ha uD I in
theorem ad4(hs:u.length<a+6\/le u a 2<1\/255<le u a 2\/u.length<a+6+le u a 2):
  Calls prog 142 #[.pointer (some ⟨lb,0,none⟩)] w λq w'=>xW w 0 7 (pl+a) q w':=by
 obtain⟨y,K⟩:∃y:Nat,Calls prog 144 #[.pointer (some ⟨lb,0,none⟩)] w λq w'=>q=.returned (.tuple #[.int .i64 (y:Int),.bool false])/\∃j,w'=w.drewN j:=by
  by_cases q:u.length<a+6
  .exact⟨0,Qz lb b off ct u pl a vN vS zs.sum Ba ha w I.ls q⟩
  .refine⟨le u a 2,(AX lb b off ct u pl a vN vS zs.sum hu Ba ha w I.ls I.LV ag).mono λr w' hh=>⟨?_,hh.2⟩⟩;rw[hh.1];have:decide (1<=le u a 2/\le u a 2<=255/\a+6+le u a 2<=u.length)=false:=aJ;rw[this]
 have KW:=λj=>BH lb _ pl a vN vS zs.sum uD ag (w.drewN j) (I.ls.drewN j) 0 0 (pl+a) rfl ag ag
 clear I hs;go_enter func142,ntmps142
 go_wp2_with(first|(go_at_call 144;refine K.mono ?_;rintro q w2 ⟨rfl,j,xI⟩;obtain rfl:=xI.symm)|(go_at_call 141;refine(KW _).mono ?_;rintro q w2 ⟨v,rfl,g1,g2⟩))
 exact axm
include hu Ba ha uD VS I in
theorem ad7(k:Nat)(hk:le u a 2=k)(hs:a+6+k<=u.length)(NU:1<=k)(SY:k<=255)(nm:aj)(VQ:part u (a+2) k=nm)(hq0:0<ns.length)(hq:uh nm (ns.getD (ns.length-1) [])=true):
  Calls prog 142 #[.pointer (some ⟨lb,0,none⟩)] w λq w'=>xW w 0 7 (pl+(a+2)) q w':=by
 have K:=AX lb b off ct u pl a vN vS zs.sum hu Ba ha w I.ls I.LV ag;rw[hk,show decide (1<=k/\k<=255/\a+6+k<=u.length)=true by simp;omega]at K;have sl:=wQ b off u.length ct (a:Int) ((a:Int)+(k:Int)+6) a (a+k+6) rfl aA ag ag ag;rw[show a+k+6-a=k+6 by omega]at sl;obtain⟨ce,ece⟩:∃ce,ct-a=ce:=⟨_,rfl⟩;have hce:k+6<ce:=ag;rw[ece]at sl;have sl2:=wQ b (off+a) (k+6) ce 2 (2+(k:Int)) 2 (2+k) rfl aA ag ag ag;rw[show 2+k-2=k by omega]at sl2;have hcv:=λw' (hw:xM w' b off u)=>LD (hw.part (a:=a+2) (n:=k) ag) k (qF ag) (ce-2)
 rw[show off+(a+2)=off+a+2 by omega,VQ]at hcv;have c0:=ql.cell I.ls (i:=0) rfl;have c2:=ql.cell I.ls (i:=2) rfl;have c3:=ql.cell I.ls (i:=3) rfl;have c5:=ql.cell I.ls (i:=5) rfl;have rq:∀j,xM (w.drewN j) b off u:=λj=>I.LV
 have RU:IntKind.i64.wrap ((a:Int)+(k:Int))=(a:Int)+(k:Int):=dH _ ag;have Xi:IntKind.i64.wrap ((a:Int)+(k:Int)+6)=(a:Int)+(k:Int)+6:=dH _ ag;have KW:=λj (x:Nat) hx=>BH lb _ pl a vN vS zs.sum uD ag (w.drewN j) (I.ls.drewN j) (x:Int) x (pl+a+x) rfl hx rfl
 obtain⟨c0',ec⟩:∃c0',ns.length=c0'+1:=⟨ns.length-1,ag⟩;have QH:=I.on;obtain⟨g,cn,ev⟩:=vI QH ag;rw[ev]at QH c3;have hla:=QH.cellAt c0' ag;rw[Py ag]at hla;rw[show ns.length-1=c0' by omega]at hq;obtain⟨la,el⟩:∃la,ns.getD c0' []=la:=⟨_,rfl⟩;rw[el]at hla hq;rw[ec]at c3 VS;unfold uh at hq;have K2:=λj=>KW j 2 ag
 clear KW QH ev el ec ece hk VQ I hs hq0;rcases hq1:Op.bytesLess nm la with _|_
 all_goals
  rw[hq1]at hq
  try simp only[jS]at hq
  go_enter func142,ntmps142
  go_wp2_with(first|(go_at_call 144;refine K.mono ?_;rintro q w2 ⟨rfl,j,xI⟩;obtain rfl:=xI.symm))
  go_big_quiet (fail)
  have ahD:=hcv _ (rq (j+nq))
  go_wp2_with fail
  go_big_quiet (fail)
  go_wp2_with(first|(go_at_call 141;refine(K2 _).mono ?_;rintro q w2 ⟨v,rfl,g1,g2⟩))
  exact axm
end
section
variable (B lb b off ct:Nat)(u:aj)(pl a:Nat)(vN vS:ai)(ns:List (aj))(zs:aC)(Nk:lb<B)(RZ:b<B)(QN:lb≠b)(hu:u.length<=1000000)(Ba:u.length<ct)(ha:a<=u.length)(uD:pl<=1000000000000)(VS:ns.length<1000)(Xd:zs.length=ns.length)(hzs:zs.sum<=65536)(w:ah)(I:LsI B w lb b off ct u pl a vN vS ns zs)
include hu Ba ha uD VS hzs I in
theorem ad8(k:Nat)(hk:le u a 2=k)(hs:a+6+k<=u.length)(NU:1<=k)(SY:k<=255)(nm:aj)(VQ:part u (a+2) k=nm)(z:Nat)(hz:le u (a+2+k) 4=z)(akW:65536<zs.sum+z)(hq:0<ns.length->uh nm (ns.getD (ns.length-1) [])=false):
  Calls prog 142 #[.pointer (some ⟨lb,0,none⟩)] w λq w'=>xW w 0 7 (pl+(a+(2+k))) q w':=by
 have K:=AX lb b off ct u pl a vN vS zs.sum hu Ba ha w I.ls I.LV ag;rw[hk,show decide (1<=k/\k<=255/\a+6+k<=u.length)=true by simp;omega]at K;have sl:=wQ b off u.length ct (a:Int) ((a:Int)+(k:Int)+6) a (a+k+6) rfl aA ag ag ag;rw[show a+k+6-a=k+6 by omega]at sl;obtain⟨ce,ece⟩:∃ce,ct-a=ce:=⟨_,rfl⟩;have hce:k+6<ce:=ag;rw[ece]at sl;have sl2:=wQ b (off+a) (k+6) ce 2 (2+(k:Int)) 2 (2+k) rfl aA ag ag ag;rw[show 2+k-2=k by omega]at sl2;have hcv:=λw' (hw:xM w' b off u)=>LD (hw.part (a:=a+2) (n:=k) ag) k (qF ag) (ce-2)
 rw[show off+(a+2)=off+a+2 by omega,VQ]at hcv;have c0:=ql.cell I.ls (i:=0) rfl;have c2:=ql.cell I.ls (i:=2) rfl;have c3:=ql.cell I.ls (i:=3) rfl;have c5:=ql.cell I.ls (i:=5) rfl;have rq:∀j,xM (w.drewN j) b off u:=λj=>I.LV
 have RU:IntKind.i64.wrap ((a:Int)+(k:Int))=(a:Int)+(k:Int):=dH _ ag;have Xi:IntKind.i64.wrap ((a:Int)+(k:Int)+6)=(a:Int)+(k:Int)+6:=dH _ ag;have KW:=λj (x:Nat) hx=>BH lb _ pl a vN vS zs.sum uD ag (w.drewN j) (I.ls.drewN j) (x:Int) x (pl+a+x) rfl hx rfl
 have e4:(part u (a+2+k) 4).length=4:=qF ag
 have LW:le (part u (a+2+k) 4) 0 4=le u (a+2+k) 4:=by exact axT
 have sl3:=Iw b (off+a) (k+6) ce (2+(k:Int)) (2+k) aA ag ag;rw[show k+6-(2+k)=4 by omega]at sl3;have K4:=λn cap=>xe b (off+(a+2+k)) 4 cap (part u (a+2+k) 4) e4 ag (w.drewN n) (I.LV.part ag)
 rw[LW,hz,show off+(a+2+k)=off+a+(2+k)by omega]at K4;have ata:z<2^32:=aw6;obtain⟨S,eS⟩:∃S,zs.sum=S:=⟨_,rfl⟩;have K2:=λj=>BH lb _ pl a vN vS zs.sum uD ag (w.drewN j) (I.ls.drewN j) (2+(k:Int)) (2+k) (pl+(a+(2+k))) aA ag ag
 rw[eS]at c5 akW hzs;by_cases q0:ns.length=0
 .have c3':w.cell? ⟨lb,3,none⟩=some (.slice none 0 0)\/∃g cn,w.cell? ⟨lb,3,none⟩=some (.slice (some ⟨g,0,none⟩) 0 cn):=by
   rcases I.on.2 with⟨e,_⟩|⟨g,cn,cur,e,_⟩
   .left;rw[c3,e]
   .right;exact⟨g,cn,by rw[c3,e,q0]⟩
  clear KW c3 ece hk VQ I hs hq eS LW e4 hz;rcases c3' with c3|⟨g,cn,c3⟩
  all_goals
   go_enter func142,ntmps142
   go_wp2_with(first|(go_at_call 144;refine K.mono ?_;rintro q w2 ⟨rfl,j,xI⟩;obtain rfl:=xI.symm))
   go_big_quiet (fail)
   have ahD:=hcv _ (rq (j+nq))
   go_wp2_with fail
   go_big_quiet (fail)
   go_wp2_with(first|(go_at_call 139;refine(K4 _ _).mono ?_;rintro q w' ⟨rfl,sH⟩;obtain rfl:=sH.symm)|(go_at_call 141;refine(K2 _).mono ?_;rintro q w2 ⟨v,rfl,g1,g2⟩))
   exact axm
 .replace hq:=hq ag;obtain⟨c0',ec⟩:∃c0',ns.length=c0'+1:=⟨ns.length-1,ag⟩;have QH:=I.on;obtain⟨g,cn,ev⟩:=vI QH ag;rw[ev]at QH c3;have hla:=QH.cellAt c0' ag;rw[Py ag]at hla;rw[show ns.length-1=c0' by omega]at hq;obtain⟨la,el⟩:∃la,ns.getD c0' []=la:=⟨_,rfl⟩;rw[el]at hla hq;rw[ec]at c3 VS;unfold uh at hq;obtain⟨hq1,Yy⟩:=auY.1 hq;clear KW QH ev el ec ece hk VQ I hs hq eS LW e4 hz;go_enter func142,ntmps142
  go_wp2_with(first|(go_at_call 144;refine K.mono ?_;rintro q w2 ⟨rfl,j,xI⟩;obtain rfl:=xI.symm))
  go_big_quiet (fail)
  have ahD:=hcv _ (rq (j+nq))
  go_wp2_with fail
  go_big_quiet (fail)
  go_wp2_with(first|(go_at_call 139;refine(K4 _ _).mono ?_;rintro q w' ⟨rfl,sH⟩;obtain rfl:=sH.symm)|(go_at_call 141;refine(K2 _).mono ?_;rintro q w2 ⟨v,rfl,g1,g2⟩))
  exact axm
