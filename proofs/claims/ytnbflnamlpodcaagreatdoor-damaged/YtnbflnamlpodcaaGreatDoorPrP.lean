import Derived.Test.YtnbflnamlpodcaaGreatDoorPrN
set_option maxHeartbeats 8000000
set_option maxRecDepth 100000
namespace Go.Proofs.Y
open Go.Proofs.Tryz
open Go.RowKit Go.Deep
theorem OX{t:List UInt8}{n:Nat}:∀(m j:Nat)(i:Nat),i+m<=n->le (part t j n) i m=le t (j+i) m
 |0,_,_,_=>rfl
 |m+1,j,i,h=>by show tJ (part t j n) i+256*le (part t j n) (i+1) m=tJ t (j+i)+256*le t (j+i+1) m;rw[uV ae,OX m j (i+1) ae,dw]
theorem Ci(bx b off ct:Nat)(u:List UInt8)(hu:u.length=24)(A7:24<=ct)(A N:Int)(a n:Nat)(hA:A=a)(hN:N=n)(hn:n<=4)(ha:a+n<=24)(ha2:a<24)(w:World)(h:w.cell? ⟨bx,0,none⟩=some (.slice (some ⟨b,off,none⟩) 24 ct))(hB:CS w b off u):
  Calls prog 142 #[.int .i64 A,.int .i64 N,.pointer (some ⟨bx,0,none⟩)] w λq w'=>q=.returned (.int .i64 (le u a n:Nat))/\w'=w:=by
 subst hA hN;have hP:(part u a n).length=n:=qF ae;have K:=λcap=>wY b (off+a) n cap (part u a n) hP ae w (hB.part ae)
 have hle:le (part u a n) 0 n=le u a n:=OX n a 0 ae;have qE:le u a n<2^32:=aK (Rn u n a) avJ;rw[hle]at K;obtain⟨y,ey⟩:∃y,le u a n=y:=⟨_,rfl⟩;rw[ey]at K qE⊢;have sl:=zS b off 24 ct (a:Int) ((a:Int)+(n:Int)) a (a+n) rfl ai ae ae ae;rw[show a+n-a=n by omega]at sl;clear ey hle hP hB hu;go_enter func142,ntmps142
 go_wp2_with(first|(go_at_call 141;refine(K _).mono ?_;rintro q w' ⟨rfl,tH⟩;obtain rfl:=tH.symm))
 exact awE
def Rd.nums(r:Rd)(u:List UInt8):Rd:={r with k:=le u 6 1,n:=le u 7 1,i:=le u 8 1,c:=le u 10 4,m:=le u 14 4,ln:=le u 18 4}
def ab3(w:World)(rb:Nat)(r:Rd)(u:List UInt8)(q:Ending)(w':World):Prop:=
 ru w.heap.size (· =rb) w w'/\xR w' rb (r.nums u)/\match vM (yY u)with
  |some p=>∃v,q=.returned v/\sG w' 0 v 1 p
  |none=>q=.returned .nilIface
theorem Qv{w w3 w':World}{rb:Nat}{R:Rd}(hA:ru w.heap.size (· =rb) w w3)(hR:xR w3 rb R)(hb:Below w3.heap.size w3 w'):ru w.heap.size (· =rb) w w'/\xR w' rb R:=
 ⟨hA.trans (.qm (hb.mono hA.size)),qf.later hR (S:=λ_=>False) (.qm hb) (qf.lt hR) id⟩
def Qw(u:List UInt8):List Value:=[.int .i64 6,.int .i64 (le u 6 1:Nat),.int .i64 1,.int .i64 128,.int .i64 7,.int .i64 (le u 7 1:Nat),.int .i64 (le u 6 1:Nat),.int .i64 128,.int .i64 8,.int .i64 (le u 8 1:Nat),.int .i64 0,.int .i64 ((le u 7 1:Nat)-1),.int .i64 9,.int .i64 (le u 9 1:Nat),.int .i64 0,.int .i64 0,.int .i64 10,.int .i64 (le u 10 4:Nat),.int .i64 1,.int .i64 65536,.int .i64 14,.int .i64 (le u 14 4:Nat),.int .i64 4,.int .i64 300000,.int .i64 18,.int .i64 (le u 18 4:Nat),.int .i64 0,.int .i64 65536,.int .i64 22,.int .i64 (le u 22 2:Nat),.int .i64 0,.int .i64 0]
section
variable (rb:Nat)(r:Rd)(u:List UInt8)(b off ct:Nat)(hu:u.length=24)(A7:24<=ct)(hbr:b≠rb)(w:World)(h:xR w rb r)(hB:CS w b off u)
include hu A7 hbr h hB in
theorem SH:
  Calls prog 136 #[.pointer (some ⟨rb,0,none⟩),.slice (some ⟨b,off,none⟩) 24 ct] w λq w'=>ab3 w rb r u q w':=by
 have hrb:=qf.lt h;have ZT:b<w.heap.size:=rM (hB 0 ae);have hA:=(ru.refl w.heap.size (· =rb) w).alloc (ak _) (.cells #[Value.slice (some ⟨b,off,none⟩) 24 ct] 34);have Ac:qf (w.alloc (.cells #[Value.slice (some ⟨b,off,none⟩) 24 ct] 34)) w.heap.size [.slice (some ⟨b,off,none⟩) 24 ct] 34:=qf.made w _ _
 have hR0:xR (w.alloc (.cells #[Value.slice (some ⟨b,off,none⟩) 24 ct] 34)) rb r:=by unfold xR qf at*;rw[bM w _ rb hrb];exact h
 have NF:=hB.later hA ZT hbr;have hN:∀a n,n<=4->le u a n<2^32:=λa n hn=>aK (Rn u n a) avJ
 go_enter func136,ntmps136
 go_upto_region 3 with(fail)
 obtain⟨bx,ebx⟩:∃bx,w.heap.size=bx:=⟨_,rfl⟩;have hxr:bx≠rb:=ae;have hxb:bx≠b:=ae;rw[ebx]at Ac⊢;have EB:Hid (w.heap.size=bx):=ebx;clear ebx h hB;generalize w.alloc (.cells #[Value.slice (some ⟨b,off,none⟩) 24 ct] 34)=w0 at hA Ac hR0 NF⊢;have f0:=qf.frozen hR0;have c0:=qf.cell hR0 (i:=0) rfl;have c1:=qf.cell hR0 (i:=1) rfl;have c2:=qf.cell hR0 (i:=2) rfl;have c3:=qf.cell hR0 (i:=3) rfl
 go_upto_region 4 with(first|(go_at_call 142;refine(Ci _ b off ct u hu A7 _ _ 6 1 ax ax ae ae ae _ atP ad2).mono ?_;rintro q w' ⟨rfl,tH⟩;obtain rfl:=tH.symm)|(go_at_call 142;refine(Ci _ b off ct u hu A7 _ _ 7 1 ax ax ae ae ae _ atP ad2).mono ?_;rintro q w' ⟨rfl,tH⟩;obtain rfl:=tH.symm)|(go_at_call 142;refine(Ci _ b off ct u hu A7 _ _ 8 1 ax ax ae ae ae _ atP ad2).mono ?_;rintro q w' ⟨rfl,tH⟩;obtain rfl:=tH.symm)|(go_at_call 142;refine(Ci _ b off ct u hu A7 _ _ 10 4 ax ax ae ae ae _ atP ad2).mono ?_;rintro q w' ⟨rfl,tH⟩;obtain rfl:=tH.symm))
 have RJ:xR _ rb {r with k:=le u 6 1,n:=le u 7 1,i:=le u 8 1,c:=le u 10 4}:=(((qf.set hR0 0 (.int .i64 (le u 6 1:Nat))).set 1 (.int .i64 (le u 7 1:Nat))).set 2 (.int .i64 (le u 8 1:Nat))).set 3 (.int .i64 (le u 10 4:Nat));have O8:ru w.heap.size (· =rb) w _:=(((hA.setCell (p:=⟨rb,0,none⟩) (.inr rfl) (.int .i64 (le u 6 1:Nat))).setCell (p:=⟨rb,1,none⟩) (.inr rfl) (.int .i64 (le u 7 1:Nat))).setCell (p:=⟨rb,2,none⟩) (.inr rfl) (.int .i64 (le u 8 1:Nat))).setCell (p:=⟨rb,3,none⟩) (.inr rfl) (.int .i64 (le u 10 4:Nat));have hAA:ru w0.heap.size (· =rb) w0 _:=((((ru.refl w0.heap.size (· =rb) w0).setCell (p:=⟨rb,0,none⟩) (.inr rfl) (.int .i64 (le u 6 1:Nat))).setCell (p:=⟨rb,1,none⟩) (.inr rfl) (.int .i64 (le u 7 1:Nat))).setCell (p:=⟨rb,2,none⟩) (.inr rfl) (.int .i64 (le u 8 1:Nat))).setCell (p:=⟨rb,3,none⟩) (.inr rfl) (.int .i64 (le u 10 4:Nat));have FU:=Ac.later hAA Ac.lt hxr;have Iq:=NF.later hAA (rM (NF 0 ae)) hbr;clear hAA hA Ac NF hR0 f0 c0 c1 c2 c3;generalize(((w0.setCell ⟨rb,0,none⟩ (.int .i64 (le u 6 1:Nat))).setCell ⟨rb,1,none⟩ (.int .i64 (le u 7 1:Nat))).setCell ⟨rb,2,none⟩ (.int .i64 (le u 8 1:Nat))).setCell ⟨rb,3,none⟩ (.int .i64 (le u 10 4:Nat))=w1 at O8 FU RJ Iq⊢;have f0:=qf.frozen RJ;have c7:=qf.cell RJ (i:=7) rfl;have c8:=qf.cell RJ (i:=8) rfl
 go_upto_region 5 with(first|(go_at_call 142;refine(Ci _ b off ct u hu A7 _ _ 14 4 ax ax ae ae ae _ (by exact FU.cell rfl) (by exact Iq)).mono ?_;rintro q w' ⟨rfl,tH⟩;obtain rfl:=tH.symm)|(go_at_call 142;refine(Ci _ b off ct u hu A7 _ _ 18 4 ax ax ae ae ae _ (by exact FU.cell rfl) (by exact Iq)).mono ?_;rintro q w' ⟨rfl,tH⟩;obtain rfl:=tH.symm))
 have Fh:xR _ rb (r.nums u):=((qf.set RJ 7 (.int .i64 (le u 14 4:Nat))).set 8 (.int .i64 (le u 18 4:Nat)));have Nv:ru w.heap.size (· =rb) w _:=(O8.setCell (p:=⟨rb,7,none⟩) (.inr rfl) (.int .i64 (le u 14 4:Nat))).setCell (p:=⟨rb,8,none⟩) (.inr rfl) (.int .i64 (le u 18 4:Nat));have hAA:ru w1.heap.size (· =rb) w1 _:=((ru.refl w1.heap.size (· =rb) w1).setCell (p:=⟨rb,7,none⟩) (.inr rfl) (.int .i64 (le u 14 4:Nat))).setCell (p:=⟨rb,8,none⟩) (.inr rfl) (.int .i64 (le u 18 4:Nat));have SX:=FU.later hAA FU.lt hxr;have Ae:=Iq.later hAA (rM (Iq 0 ae)) hbr;clear hAA O8 FU Iq RJ f0 c7 c8;generalize(w1.setCell ⟨rb,7,none⟩ (.int .i64 (le u 14 4:Nat))).setCell ⟨rb,8,none⟩ (.int .i64 (le u 18 4:Nat))=w2 at Nv SX Fh Ae⊢;have c0:=qf.cell Fh (i:=0) rfl;have c1:=qf.cell Fh (i:=1) rfl;have c2:=qf.cell Fh (i:=2) rfl;have c3:=qf.cell Fh (i:=3) rfl;have c7:=qf.cell Fh (i:=7) rfl;have c8:=qf.cell Fh (i:=8) rfl;simp only[Rd.nums]at c0 c1 c2 c3 c7 c8;have K9:=Ci _ b off ct u hu A7 9 1 9 1 rfl rfl ae ae ae w2.drew (show w2.drew.cell? _=_ from SX.cell rfl) (show CS w2.drew b off u from Ae);have K22:=Ci _ b off ct u hu A7 22 2 22 2 rfl rfl ae ae ae w2.drew (show w2.drew.cell? _=_ from SX.cell rfl) (show CS w2.drew b off u from Ae);have h7:=hN 7 1 ae;have HM:Hid _:=hN;clear hN
 go_region_held3 (λw'=>w'.cell? ⟨rb,0,none⟩=some (.int .i64 (le u 6 1:Nat))/\w'.cell? ⟨rb,1,none⟩=some (.int .i64 (le u 7 1:Nat))/\w'.cell? ⟨rb,2,none⟩=some (.int .i64 (le u 8 1:Nat))/\w'.cell? ⟨rb,3,none⟩=some (.int .i64 (le u 10 4:Nat))/\w'.cell? ⟨rb,7,none⟩=some (.int .i64 (le u 14 4:Nat))/\w'.cell? ⟨rb,8,none⟩=some (.int .i64 (le u 18 4:Nat))) (go_keep)
  (first|(go_at_call 142;with_reducible refine K9.mono ?_;rintro e w' ⟨rfl,tH⟩;obtain rfl:=tH.symm)|(go_at_call 142;with_reducible refine K22.mono ?_;rintro e w' ⟨rfl,tH⟩;obtain rfl:=tH.symm))
 have VV:IntKind.i64.wrap ((le u 7 1:Nat)-1:Int)=(le u 7 1:Nat)-1:=dV _ ae;rw[VV];clear VV K9 K22 c0 c1 c2 c3 c7 c8;have Px:ru w.heap.size (· =rb) w _:=(Nv.alloc (by have:=Nv.size;omega) (.cells (Qw u).toArray 226)).drew
 have XH:xR ((w2.alloc (.cells (Qw u).toArray 226)).drew) rb (r.nums u):=by have:=qf.later Fh (S:=λ_=>False) ((ru.refl w2.heap.size _ w2).alloc (ak _) (.cells (Qw u).toArray 226)) (qf.lt Fh) id;exact this
 have Iz:qf ((w2.alloc (.cells (Qw u).toArray 226)).drew) w2.heap.size (Qw u) 226:=qf.made w2 _ _;unfold Qw at Px XH Iz;obtain⟨g,eg⟩:∃g,w2.heap.size=g:=⟨_,rfl⟩;rw[eg]at Iz⊢;generalize(w2.alloc _).drew=w3 at Px XH Iz⊢;clear Nv Fh SX Ae eg
 have SS:∀c,c<8->∃(p v:Nat)(lo hi:Int),(yY u).drop c=(p,v,lo,hi)::(yY u).drop (c+1)/\w3.cell? ⟨g,c*4,none⟩=some (.int .i64 (p:Int))/\w3.cell? ⟨g,c*4+1,none⟩=some (.int .i64 (v:Int))/\w3.cell? ⟨g,c*4+2,none⟩=some (.int .i64 lo)/\w3.cell? ⟨g,c*4+3,none⟩=some (.int .i64 hi):=by
  intro c hc
  match c,hc with
  |0,_=>exact⟨6,_,_,_,rfl,Iz.cell rfl,Iz.cell rfl,Iz.cell rfl,Iz.cell rfl⟩
  |1,_=>exact⟨7,_,_,_,rfl,Iz.cell rfl,Iz.cell rfl,Iz.cell rfl,Iz.cell rfl⟩
  |2,_=>exact⟨8,_,_,_,rfl,Iz.cell rfl,Iz.cell rfl,Iz.cell rfl,Iz.cell rfl⟩
  |3,_=>exact⟨9,_,_,_,rfl,Iz.cell rfl,Iz.cell rfl,Iz.cell rfl,Iz.cell rfl⟩
  |4,_=>exact⟨10,_,_,_,rfl,Iz.cell rfl,Iz.cell rfl,Iz.cell rfl,Iz.cell rfl⟩
  |5,_=>exact⟨14,_,_,_,rfl,Iz.cell rfl,Iz.cell rfl,Iz.cell rfl,Iz.cell rfl⟩
  |6,_=>exact⟨18,_,_,_,rfl,Iz.cell rfl,Iz.cell rfl,Iz.cell rfl,Iz.cell rfl⟩
  |7,_=>exact⟨22,_,_,_,rfl,Iz.cell rfl,Iz.cell rfl,Iz.cell rfl,Iz.cell rfl⟩
 have hg3:g<w3.heap.size:=Iz.lt;clear Iz h7 HM hu A7 hbr;go_wp2
 go_loopw [90] (λvi wr=>∃c:Nat,c<=8/\vi=.int .i64 (c:Int)/\Below w3.heap.size w3 wr/\Hid (vM (yY u)=vM ((yY u).drop c))) (λi _=>8-(intOf i).toNat)
 case atStart=>exact⟨0,ae,rfl,aA _ _,rfl⟩
 case round=>
  obtain⟨c,hc,rfl,hb,H⟩:=hrel;by_cases qE:c<8
  .obtain⟨p,v,lo,hi,e1,d0,d1,d2,d3⟩:=SS c qE
   have H2:Hid (vM (yY u)=if(v:Int)<lo\/hi<(v:Int)then some p else vM ((yY u).drop (c+1))):=by show _=_;rw[H.out,e1];rfl
   rw[<-hb.cell (p:=⟨g,c*4,none⟩) hg3]at d0;rw[<-hb.cell (p:=⟨g,c*4+1,none⟩) hg3]at d1;rw[<-hb.cell (p:=⟨g,c*4+2,none⟩) hg3]at d2;rw[<-hb.cell (p:=⟨g,c*4+3,none⟩) hg3]at d3;clear SS e1 H;by_cases q1:(v:Int)<lo
   .have HB:Hid (vM (yY u)=some p):=by show _=_;rw[H2.out,aj (.inl q1)]
    go_wp2_with(first|(go_at_call 64;refine(Am _ _ 1 p ax ax _).mono ?_;rintro q w5 ⟨v5,rfl,g1,g2⟩))
    exact axs
   .by_cases q2:hi<(v:Int)
    .have HB:Hid (vM (yY u)=some p):=by show _=_;rw[H2.out,aj (.inr q2)]
     go_wp2_with(first|(go_at_call 64;refine(Am _ _ 1 p ax ax _).mono ?_;rintro q w5 ⟨v5,rfl,g1,g2⟩))
     exact axs
    .have HB:Hid (vM (yY u)=vM ((yY u).drop (c+1))):=by
      show _=_;rw[H2.out,ah ae]
     clear H2;go_wp2
     go_roundw
     case rel=>exact⟨c+1,ae,aW,by first|exact hb.alloc hb.size _|exact(hb.alloc hb.size _).setCell auw _,HB⟩
     case measure=>simp[intOf];omega
  .obtain rfl:c=8:=ae;have HB:Hid (vM (yY u)=none):=H;clear SS;go_wp2;go_ret;obtain⟨z1,z2⟩:=Qv Px XH hb;refine⟨z1,z2,?_⟩;rw[HB.out];exact rfl
end
def ui(B:Nat)(w:World)(rb:Nat)(s:St)(t:List UInt8)(vN vS vC vT:Value)(R:Except (Nat×Nat) St)(D:Nat)(q:Ending)(w':World):Prop:=
 ru w.heap.size (qO rb vC vT) w w'/\match R with
 | .error e=>(∃v d,d<=D/\q=.returned v/\sG w' d v e.1 e.2)/\(∃r',xR w' rb r')/\(e.1=4->RI B w' rb s t vN vS vC vT)
 | .ok s'=>q=.returned .nilIface/\∃Vj Vk FT,RI B w' rb s' t Vj Vk FT vT/\(FT.ownBlock=vC.ownBlock\/∃g,FT.ownBlock=some g/\w.heap.size<=g)
theorem RI.below{B rb:Nat}{w w':World}{s:St}{t:List UInt8}{vN vS vC vT:Value}(I:RI B w rb s t vN vS vC vT)(hb:Below w.heap.size w w'):RI B w' rb s t vN vS vC vT:=by
 have key:∀{e n:Nat}{v:Value}{xs:List Value},w.ownsRow B e 1 v n xs->w'.ownsRow B e 1 v n xs:=λh=>vI h (λg uB=>hb.block g (h.lt g uB).2)
 exact⟨qf.later I.rd (S:=λ_=>False) (.qm hb) (qf.lt I.rd) id,key I.on,key I.os,key I.oc,key I.ot,I.ap,aJ I.size hb.size⟩
theorem ui.fault{B:Nat}{w w':World}{rb:Nat}{s:St}{t:List UInt8}{vN vS vC vT v:Value}{e:Nat×Nat}{d D:Nat}(I:RI B w rb s t vN vS vC vT)(hd:d<=D)(h:sG w' d v e.1 e.2)(hb:Below w.heap.size w w'):ui B w rb s t vN vS vC vT (.error e) D (.returned v) w':=
 ⟨.qm hb,⟨v,d,hd,rfl,h⟩,⟨_,(I.below hb).rd⟩,λ_=>I.below hb⟩
theorem yE{w w':World}{j:Nat}(h:Below (w.drewN j).heap.size (w.drewN j) w'):Below w.heap.size w w':=⟨h.os,h.tape,h.output,h.size,h.block⟩
theorem RI.turn{B rb:Nat}{w w':World}{s s':St}{t:List UInt8}{vN vS vC vT:Value}(I:RI B w rb s t vN vS vC vT)(hB:ru w.heap.size (· =rb) w w')(hR:xR w' rb (s'.rd vN vS vC vT .nilIface))(h1:s'.ns=s.ns)(h2:s'.zs=s.zs)(h3:s'.qy=s.qy):RI B w' rb s' t vN vS vC vT:=by
 have key:∀{e n:Nat}{v:Value}{xs:List Value},w.ownsRow B e 1 v n xs->e≠122->w'.ownsRow B e 1 v n xs:=λh he=>vI h (λg uB=>hB.block g (h.lt g uB).2 (λe=>uC h I.rd he (by rw[uB,e])))
 exact⟨hR,by rw[h1];exact key I.on au,by rw[h2];exact key I.os au,by rw[h3];exact key I.oc au,key I.ot au,I.ap,aJ I.size hB.size⟩
theorem ad9{t:List UInt8}:yY (part t 0 24)=yY t:=by
 have h:∀a n,a+n<=24->le (part t 0 24) a n=le t a n:=λa n hn=>avX
 unfold yY;rw[h 6 1 ae,h 7 1 ae,h 8 1 ae,h 9 1 ae,h 10 4 ae,h 14 4 ae,h 18 4 ae,h 22 2 ae]
section
variable (B rb:Nat)(s:St)(t:List UInt8)(vN vS vC vT:Value)(hb:Bd s)(ht:t.length<=s.sz)(w:World)(I:RI B w rb s t vN vS vC vT)(uN:CQ w)
include hb ht I in
theorem ZH(NG:s.nx=3):Calls prog 133 #[.pointer (some ⟨rb,0,none⟩)] w λq w'=>ui B w rb s t vN vS vC vT (IM s t) 0 q w':=by
 obtain⟨bc,cc,eC,hcc⟩:=I.oc.slice;obtain⟨bt,ct,eT,A7⟩:=I.ot.slice;have hz:=St.Yc hb
 have KB:Calls prog 134 #[.pointer (some ⟨rb,0,none⟩),.string ⟨#[68,79,78,69]⟩] w λq w'=>H8 w t uQ s.pl q w':=
  Vm rb (s.rd vN vS vC vT .nilIface) t uQ au ae lL w I.rd I.ot.lies
 have KY:=λj=>X9 rb (s.rd vN vS vC vT .nilIface) bc s.qy.length cc eC lM lT lQ hb.qy mZ bt t.length ct eT (w.drewN j) I.rd
 have KN:=λj=>abV rb (s.rd vN vS vC vT .nilIface) bc s.qy.length cc eC lM lT lQ hb.qy mZ bt t.length ct eT ae lL (w.drewN j) I.rd
 have hsz:yB s.nx s.c s.m s.ln s.qy.length=s.sz:=rfl;simp only[St.rd,hsz]at KY KN;unfold IM;cases hbe:BO t uQ with
 |some i=>
  have HB:Hid (BO t uQ=some i):=hbe;clear KY KN hbe;unfold H8 at KB;rw[HB.out]at KB;simp only at KB;go_enter func133,ntmps133
  go_wp2_with(first|(go_at_call 134;refine KB.mono ?_;rintro q w2 ⟨v,rfl,g1,g2⟩;obtain⟨ty,x,rfl⟩:=g1.iface))
  go_ret;exact ui.fault I (ak _) g1 g2
 |none=>
  unfold H8 at KB;rw[hbe]at KB;simp only at KB⊢;by_cases q:t.length<s.sz
  .rw[aj q];have K:=λj=>KN j q
   clear KY KN hbe;go_enter func133,ntmps133
   go_wp2_with(first|(go_at_call 134;refine KB.mono ?_;rintro q w2 ⟨rfl,j,xG⟩;obtain rfl:=xG.symm)|(go_at_call 140;refine(K _).mono ?_;rintro q w2 ⟨v,rfl,g1,g2⟩))
   go_ret;exact ui.fault I (ak _) g1 (yE g2)
  .rw[ah q];have K:=λj=>KY j ae
   clear KY KN hbe;go_enter func133,ntmps133
   go_wp2_with(first|(go_at_call 134;refine KB.mono ?_;rintro q w2 ⟨rfl,j,xG⟩;obtain rfl:=xG.symm)|(go_at_call 140;refine(K _).mono ?_;rintro q w2 ⟨rfl,j2,xG⟩;obtain rfl:=xG.symm))
   go_ret;refine⟨((ru.refl _ _ _).drewN _),rfl,vN,vS,vC,I.drewN _,.inl rfl⟩
include hb ht I uN in
theorem ZG(NG:s.nx=0):Calls prog 130 #[.pointer (some ⟨rb,0,none⟩)] w λq w'=>ui B w rb s t vN vS vC vT (IK s t) 0 q w':=by
 obtain⟨bc,cc,eC,hcc⟩:=I.oc.slice;obtain⟨bt,ct,eT,A7⟩:=I.ot.slice;have hz:=St.Yc hb;have x_:=sz0 NG
 have KB:Calls prog 134 #[.pointer (some ⟨rb,0,none⟩),.string ⟨#[67,65,73,82,78,49]⟩] w λq w'=>H8 w t Ba s.pl q w':=
  Vm rb (s.rd vN vS vC vT .nilIface) t Ba au ae lL w I.rd I.ot.lies
 have KS:=λj=>JI rb (s.rd vN vS vC vT .nilIface) bc s.qy.length cc eC lM lT lQ hb.qy mZ t bt ct eT ae lL (w.drewN j) I.rd I.ot.lies (uN.heap rfl)
 have hsz:yB s.nx s.c s.m s.ln s.qy.length=s.sz:=rfl;simp only[St.rd,hsz]at KS;have hSP:LV s.sz s.pl t=yO s t:=rfl;simp only[hSP]at KS;unfold IK;cases hbe:BO t Ba with
 |some i=>
  have HB:Hid (BO t Ba=some i):=hbe;clear KS hbe;unfold H8 at KB;rw[HB.out]at KB;simp only at KB;go_enter func130,ntmps130
  go_wp2_with(first|(go_at_call 134;refine KB.mono ?_;rintro q w2 ⟨v,rfl,g1,g2⟩;obtain⟨ty,x,rfl⟩:=g1.iface))
  go_ret;exact ui.fault I (ak _) g1 g2
 |none=>
  unfold H8 at KB;rw[hbe]at KB;simp only at KB⊢;cases VM:yO s t with
  |some e=>
   unfold zx at KS;rw[VM]at KS;simp only at KS⊢;clear hbe VM;go_enter func130,ntmps130
   go_wp2_with(first|(go_at_call 134;refine KB.mono ?_;rintro q w2 ⟨rfl,j,xG⟩;obtain rfl:=xG.symm)|(go_at_call 135;refine(KS _).mono ?_;rintro q w2 ⟨v,rfl,g1,g2⟩;obtain⟨ty,x,rfl⟩:=g1.iface))
   go_ret;exact ui.fault I (ak _) g1 (yE g2)
  |none=>
   unfold zx at KS;rw[VM]at KS;simp only at KS⊢
   have asg:t.length=32:=by
    unfold yO at VM;split at VM
    .cases VM
    .omega
   have hby:∃b off,bt=some ⟨b,off,none⟩/\CS w b off t/\b≠rb:=by exact axv
   obtain⟨b,off,rfl,hB,hbr⟩:=hby
   have hu:(part t 0 24).length=24:=qF ae;have KR:=λj=>SH rb (s.rd vN vS vC vT .nilIface) (part t 0 24) b off ct hu ae hbr (w.drewN j) I.rd (by have:=hB.part (a:=0) (n:=24) ae;exact this)
   unfold ab3 at KR;rw[ad9]at KR;have hle:∀a n,a+n<=24->le (part t 0 24) a n=le t a n:=λa n hn=>avX
   have hrd:(s.rd vN vS vC vT .nilIface).nums (part t 0 24)=({s with k:=le t 6 1,n:=le t 7 1,i:=le t 8 1,c:=le t 10 4,m:=le t 14 4,ln:=le t 18 4}:St).rd vN vS vC vT .nilIface:=by unfold Rd.nums St.rd;simp only;rw[hle 6 1 ae,hle 7 1 ae,hle 8 1 ae,hle 10 4 ae,hle 14 4 ae,hle 18 4 ae]
   rw[hrd]at KR;rw[asg]at KS;simp only[show 32-8=24 from rfl]at KS;have hBM:∀{j:Nat}{w':World},ru (w.drewN j).heap.size (· =rb) (w.drewN j) w'->ru w.heap.size (· =rb) w w':=λh=>((ru.refl w.heap.size _ w).drewN _).trans h
   clear hbe VM hle hrd;cases hnu:vM (yY t)with
   |some p=>
    rw[hnu]at KR;simp only at KR⊢;clear hnu;go_enter func130,ntmps130
    go_wp2_with(first|(go_at_call 134;refine KB.mono ?_;rintro q w2 ⟨rfl,j,xG⟩;obtain rfl:=xG.symm)|(go_at_call 135;refine(KS _).mono ?_;rintro q w2 ⟨rfl,j2,xG⟩;obtain rfl:=xG.symm)|(go_at_call 136;refine(KR _).mono ?_;rintro q w3 ⟨g1,g2,v,rfl,g3⟩))
    go_ret;exact⟨(hBM g1).mono (ak _) (λ_ x=>.inl x),⟨v,0,ak _,rfl,g3⟩,⟨_,g2⟩,λh=>eP⟩
   |none=>
    rw[hnu]at KR;simp only at KR⊢;clear hnu;go_enter func130,ntmps130
    go_wp2_with(first|(go_at_call 134;refine KB.mono ?_;rintro q w2 ⟨rfl,j,xG⟩;obtain rfl:=xG.symm)|(go_at_call 135;refine(KS _).mono ?_;rintro q w2 ⟨rfl,j2,xG⟩;obtain rfl:=xG.symm)|(go_at_call 136;refine(KR _).mono ?_;rintro q w3 ⟨g1,g2,rfl⟩))
    go_ret;exact⟨(hBM g1).mono (ak _) (λ_ x=>.inl x),rfl,vN,vS,vC,I.turn (hBM g1) g2 rfl rfl rfl,.inl rfl⟩
end
theorem ad_(u:List UInt8)(F:Int):Vr u F=match RQ u F with|some m=>(m:Int)|none=> -1:=rfl
theorem ab4(k i t:Nat)(hk:1<=k)(ht:t<=65536):0<=A8 k i t/\A8 k i t<=65536:=by have h1:=Du hk t;unfold A8;split<;>omega
theorem RI.column{B rb:Nat}{w w1:World}{s:St}{t x:List UInt8}{vN vS vC vT v1:Value}(I:RI B w rb s t vN vS vC vT)(h1:rG B w1 v1 (s.qy++x))(hg:w.grownBy w1 vC.ownBlock)(hk:v1.ownBlock=vC.ownBlock\/v1.ownBlock=some w.heap.size):
  RI B (w1.setCell ⟨rb,6,none⟩ v1) rb {s with qy:=s.qy++x} t vN vS v1 vT/\ru w.heap.size (qO rb vC vT) w (w1.setCell ⟨rb,6,none⟩ v1)/\w1.cell? ⟨rb,6,none⟩=some vC/\w1.frozen? ⟨rb,6,none⟩=false:=by
 have ao8:=qf.lt I.rd;have hT:=uC I.oc I.rd au
 have RJ:xR w1 rb (s.rd vN vS vC vT .nilIface):=by exact axz
 have key:∀{e n:Nat}{v:Value}{xs:List Value},w.ownsRow B e 1 v n xs->Qq v vC->w1.ownsRow B e 1 v n xs:=λh ha=>vI h (λg uB=>hg.block g (h.lt g uB).2 (λe=>ha g uB e.symm))
 have hN1:=key I.on (H_ I.on I.oc au);have Nw:=key I.os (H_ I.os I.oc au);have hT1:=key I.ot (λg h1 h2=>I.ap g h2 h1);have Fh:xR (w1.setCell ⟨rb,6,none⟩ v1) rb (({s with qy:=s.qy++x}:St).rd vN vS v1 vT .nilIface):=qf.set RJ 6 v1;refine⟨⟨Fh,uO hN1 (uC hN1 RJ au),uO Nw (uC Nw RJ au),uO h1 (uC h1 RJ au),uO hT1 (uC hT1 RJ au),?_,?_⟩,?_,qf.cell RJ (i:=6) rfl,qf.frozen RJ 6⟩
 .intro g Rz SV;rcases hk with e|e
  .exact I.ap g (e▸Rz) SV
  .have h2:=(eQ I.ot g SV).2;rw[e]at Rz;cases Rz;omega
 .have:=I.size;have:=hg.size;simp;omega
 .exact ru.setCell (ru.mono (ru.ab1 hg) (ak _) (λk hk=>.inr (.inl hk))) (p:=⟨rb,6,none⟩) (.inr (.inl rfl)) v1
section
variable (B rb:Nat)(s:St)(t:List UInt8)(vN vS vC vT:Value)(hb:Bd s)(ht:t.length<=s.sz)(w:World)(I:RI B w rb s t vN vS vC vT)(uN:CQ w)
include hb ht I uN in
theorem WX(NG:s.nx=2)(JR:1<=s.k)(O3:s.k<=128)(hi:s.i<=128)(htt:s.tt<=65536):Calls prog 132 #[.pointer (some ⟨rb,0,none⟩)] w λq w'=>ui B w rb s t vN vS vC vT (Ec s t) 0 q w':=by
 obtain⟨bc,cc,eC,hcc⟩:=I.oc.slice;obtain⟨bt,ct,eT,A7⟩:=I.ot.slice;have hz:=St.Yc hb;have KS:=JI rb (s.rd vN vS vC vT .nilIface) bc s.qy.length cc eC lM lT lQ hb.qy mZ t bt ct eT ae lL w I.rd I.ot.lies uN;have hsz:yB s.nx s.c s.m s.ln s.qy.length=s.sz:=rfl;simp only[St.rd,hsz]at KS;have hSP:LV s.sz s.pl t=yO s t:=rfl;simp only[hSP]at KS;unfold Ec;cases VM:yO s t with
 |some e=>
  unfold zx at KS;rw[VM]at KS;simp only at KS⊢;clear VM;go_enter func132,ntmps132
  go_wp2_with(first|(go_at_call 135;refine KS.mono ?_;rintro q w2 ⟨v,rfl,g1,g2⟩;obtain⟨ty,x,rfl⟩:=g1.iface))
  go_ret;exact ui.fault I (ak _) g1 g2
 |none=>
  unfold zx at KS;rw[VM]at KS;simp only at KS⊢;have wH:=sz2 NG
  have hl8:t.length=s.sz:=by
   unfold yO at VM;split at VM
   .cases VM
   .omega
  obtain⟨b,off,ebt,hB⟩:∃b off,bt=some ⟨b,off,none⟩/\CS w b off t:=by have hot:=I.ot;unfold rG at hot;obtain⟨g,c,e,_,_,_,_,hB⟩:=Aq hot ae;rw[eT]at e;cases e;exact⟨g,0,rfl,hB⟩
  subst ebt;obtain⟨q,eq⟩:∃q,t.length-8=q:=⟨_,rfl⟩;have hq:q+8=t.length:=ae;have hq2:s.qy.length+q<=s.ln:=by have:=hb.qy;omega
  have hu:(part t 0 q).length=q:=qF ae;have hBu:CS w b off (part t 0 q):=by have:=hB.part (a:=0) (n:=q) ae;exact this
  have hLu:qR w (.slice (some ⟨b,off,none⟩) q ct) (r_ (part t 0 q)):=by refine⟨_,ct,by rw[sN,hu],by rw[sN,hu];omega,λj u hj=>⟨b,off,rfl,?_⟩⟩;obtain⟨h1,rfl⟩:=Vo hj;exact hBu j h1
  rw[eq]at KS⊢;have O0:=hb.ln;have vP:=hb.pl;have hF:=ab4 s.k s.i s.tt JR htt;have KU:=λj=>ajV (s.k:Int) (s.i:Int) (s.tt:Int) s.k s.i s.tt rfl rfl rfl JR ae ae htt (w.drewN j)
  have KF:=λj=>aea (A8 s.k s.i s.tt-(s.qy.length:Int)) ae _ (part t 0 q) ae (w.drewN j) (hLu.drewN j)
  rw[ad_]at KF;have c0:=qf.cell I.rd (i:=0) rfl;have c2:=qf.cell I.rd (i:=2) rfl;have c6:=qf.cell I.rd (i:=6) rfl;have c9:=qf.cell I.rd (i:=9) rfl;have TF:=qf.cell I.rd (i:=11) rfl;have f6:=qf.frozen I.rd 6;simp only[St.rd]at c0 c2 c6 c9 TF;subst eC;obtain⟨us,eus⟩:∃us,A8 s.k s.i s.tt=us:=⟨_,rfl⟩;rw[eus]at KU KF hF⊢;have VV:IntKind.i64.wrap (us-(s.qy.length:Int))=us-(s.qy.length:Int):=dV _ ae;clear VM hl8 eq hsz hSP eus;cases hp:RQ (part t 0 q) (us-(s.qy.length:Int))with
  |some m=>
   rw[hp]at KF;simp only at KF⊢;have hm:m<q:=by have:=(LX.1 hp).1;omega
   obtain⟨pl,WT⟩:∃pl,s.pl=pl:=⟨_,rfl⟩;rw[WT]at TF vP⊢;have ahh:IntKind.i64.wrap ((pl:Int)+(m:Int))=(pl:Int)+(m:Int):=dV _ ae;clear hp;go_enter func132,ntmps132
   go_wp2_with(first|(go_at_call 135;refine KS.mono ?_;rintro q w2 ⟨rfl,j,xG⟩;obtain rfl:=xG.symm))
   go_big_quiet (first|(go_at_call 138;exact(KU _).mono (λ_ _ h=>⟨h.1,_,h.2⟩)))
   go_wp2_with(first|(go_at_call 139;refine(KF _).mono ?_;rintro q w2 ⟨rfl,xG⟩;obtain rfl:=xG.symm)|(go_at_call 64;refine(Am _ _ 8 (pl+m) ax ai _).mono ?_;rintro q w2 ⟨v,rfl,g1,g2⟩))
   go_ret;exact ui.fault I (ak _) g1 (yE g2)
  |none=>
   rw[hp]at KF;simp only at KF⊢;clear hp;have hot:=I.oc;unfold rG at hot;have hBs:=I.size;have KP:=hb.qy;obtain⟨i0,Af,x_,w_,hz3⟩:=bG Dc;have VP:∀j u,(r_ (part t 0 q))[j]?=some u->w.cell? ((⟨b,off,none⟩:Addr).add j)=some u:=CS.news hBu;go_enter func132,ntmps132
   go_wp2_with(first|(go_at_call 135;refine KS.mono ?_;rintro q w2 ⟨rfl,j,xG⟩;obtain rfl:=xG.symm))
   go_big_quiet (first|(go_at_call 138;exact(KU _).mono (λ_ _ h=>⟨h.1,_,h.2⟩)))
   go_wp2_with(first|(go_at_call 139;refine(KF _).mono ?_;rintro q w2 ⟨rfl,xG⟩;obtain rfl:=xG.symm)|(at_builtin;refine wpList_append_own_at _ rfl _ _ 34 rfl B 5 i0 (.int .u8 0) 1 1 underlying34 Af x_ w_ hz3 rfl au _ _ _ rfl pY ⟨b,off,none⟩ q ct (r_ (part t 0 q)) rfl (by rw[sN,hu];omega) (by exact VP) (EK _) bH ae (by exact hBs) ?_;intro v2 w2 zC zT _ AX;have ow:=ZL zC;obtain⟨b2,c3,rfl,hc3⟩:=ow.slice;obtain⟨J,hJ,x6,y6⟩:=RI.column (I.drewN _) ow zT AX))
   go_ret;have e2:(s.qy++part t 0 q).length=s.qy.length+q:=by rw[aS,hu]
   rw[e2]at J hJ AX;refine⟨((ru.refl w.heap.size _ w).drewN _).trans hJ,rfl,vN,vS,_,J,?_⟩;rcases AX with e|e
   .exact .inl e
   .exact .inr ⟨_,e,ak _⟩
