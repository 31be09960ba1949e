import Derived.Test.YtlghjjennhpjeaaGreatDoorScanH
import Derived.Deep.RegionHeld
set_option maxHeartbeats 8000000
set_option maxRecDepth 100000
namespace Go.Proofs.Y
open Go.Proofs.Tryz
open Go.RowKit Go.Deep
theorem TI(x:ByteArray):∀u∈[Value.string x],u.oneCell'=true:=og
theorem TJ(x:Int):∀u∈[Value.int .i64 x],u.oneCell'=true:=og
theorem Ye(l:List (aj))(s:aj):zC l++[.string ⟨s.toArray⟩]=zC (l++[s]):=by simp[zC]
theorem Yf(l:aC)(z:Nat):uH l++[.int .i64 (z:Int)]=uH (l++[z]):=by simp[uH]
theorem Di.step{w:ah}{sb xb bb bo cap:Nat}{l:aj}{k n i ch:Nat}{vN vS:ai}{ns:List (aj)}{zs:aC}{B:Nat}{wr w':ah}(I:Di w sb xb bb bo cap l k n i ch vN vS ns zs B wr)
  (hb:qG wr.heap.size (· =sb) wr w') (hs:yX w' sb (.slice (some ⟨bb,bo,none⟩) l.length cap) 32 none) (Kr:sb<B) (CQ:xb≠sb) (Jh:B<=wr.heap.size):Di w sb xb bb bo cap l k n i ch vN vS ns zs B w':=
 ⟨I.but.trans (hb.mono Jh (λ_ x=>.inl x)),hs,I.sh.later hb I.sh.row.lt CQ,
  qY I.on (λg hg=>hb.block g ((I.on.lt g hg).2) (by have:=(I.on.lt g hg).1;omega)),
  qY I.os (λg hg=>hb.block g ((I.os.lt g hg).2) (by have:=(I.os.lt g hg).1;omega)),I.ap⟩
theorem Di.ak6{w:ah}{sb xb bb bo cap:Nat}{l:aj}{k n i ch:Nat}{vN vS v1:ai}{ns:List (aj)}{zs:aC}{B:Nat}{wr w1:ah}{o:Obj}{nm:aj}(I:Di w sb xb bb bo cap l k n i ch vN vS ns zs B wr)
  (Kr:sb<B) (Gf:xb<B) (CQ:xb≠sb) (Jh:B<=wr.heap.size) (h1:w1.ownsRow B 9 1 v1 (ns.length+1) (zC ns++[.string ⟨nm.toArray⟩])) (hg:(wr.alloc o).grownBy w1 vN.ownBlock) (hk:v1.ownBlock=vN.ownBlock\/v1.ownBlock=some (wr.alloc o).heap.size):
  Di w sb xb bb bo cap l k n i ch v1 vS (ns++[nm]) zs B (w1.setCell ⟨xb,4,none⟩ v1):=by
 have tV:qG B (λ_=>False) wr w1:=((qG.refl _ _ _).alloc Jh o).grown hg aJ (λg hg=>(I.on.lt g hg).1);have rq:qG B (· =xb) wr (w1.setCell ⟨xb,4,none⟩ v1):=qG.setCell (S:=(· =xb)) (p:=⟨xb,4,none⟩) (tV.mono (ay _) (λ_ x=>x.elim)) (.inr rfl) v1
 have hS:w1.ownsRow B 3 1 vS zs.length (uH zs):=qY I.os (λg um=>by have h2:=I.os.lt g um;rw[hg.block g aJ (λe=>I.ap g e.symm um)];exact dI _ _ _ h2.2)
 refine⟨I.but.trans (rq.mono (ay _) (λ_ x=>.inr x)),I.sc.later rq Kr (λe=>CQ e.symm),(I.sh.later tV Gf id).ape v1,?_,dR hS Gf v1,?_⟩
 .rw[Ye]at h1;rw[bM];exact dR h1 Gf v1
 .intro g Ko Oe;rcases hk with e|e
  .exact I.ap g (e▸Ko) Oe
  .exact ax5
theorem Di.aj0{w:ah}{sb xb bb bo cap:Nat}{l:aj}{k n i ch:Nat}{vN vS v1:ai}{ns:List (aj)}{zs:aC}{B:Nat}{wr w1:ah}{o:Obj}{z:Nat}(I:Di w sb xb bb bo cap l k n i ch vN vS ns zs B wr)
  (Kr:sb<B) (Gf:xb<B) (CQ:xb≠sb) (Jh:B<=wr.heap.size) (h1:w1.ownsRow B 3 1 v1 (zs.length+1) (uH zs++[.int .i64 (z:Int)])) (hg:(wr.alloc o).grownBy w1 vS.ownBlock) (hk:v1.ownBlock=vS.ownBlock\/v1.ownBlock=some (wr.alloc o).heap.size):
  Di w sb xb bb bo cap l k n i ch vN v1 ns (zs++[z]) B (w1.setCell ⟨xb,5,none⟩ v1):=by
 have tV:qG B (λ_=>False) wr w1:=((qG.refl _ _ _).alloc Jh o).grown hg aJ (λg hg=>(I.os.lt g hg).1);have rq:qG B (· =xb) wr (w1.setCell ⟨xb,5,none⟩ v1):=qG.setCell (S:=(· =xb)) (p:=⟨xb,5,none⟩) (tV.mono (ay _) (λ_ x=>x.elim)) (.inr rfl) v1
 have hS:w1.ownsRow B 9 1 vN ns.length (zC ns):=qY I.on (λg um=>by have h2:=I.on.lt g um;rw[hg.block g aJ (λe=>I.ap g um e.symm)];exact dI _ _ _ h2.2)
 refine⟨I.but.trans (rq.mono (ay _) (λ_ x=>.inr x)),I.sc.later rq Kr (λe=>CQ e.symm),(I.sh.later tV Gf id).apf v1,dR hS Gf v1,?_,?_⟩
 .rw[Yf]at h1;rw[bM];exact dR h1 Gf v1
 .intro g Ko Oe;rcases hk with e|e
  .exact I.ap g Ko (e▸Oe)
  .exact ayl
theorem vI{w:ah}{base e n:Nat}{v:ai}{xs:aK}(h:w.ownsRow base e 1 v n xs)(hn:0<n):∃g cap,v=.slice (some ⟨g,0,none⟩) n cap:=by
 rcases h.2 with⟨_,h0⟩|⟨g,c,_,h1,_⟩
 .omega
 .exact⟨g,c,h1⟩
theorem Di.x4{w:ah}{sb xb bb bo cap:Nat}{l:aj}{k n i ch:Nat}{vN vS:ai}{ns:List (aj)}{zs:aC}{B:Nat}{wr w1:ah}{o:Obj}(I:Di w sb xb bb bo cap l k n i ch vN vS ns zs B wr)
  (Gf:xb<B) (Jh:B<=wr.heap.size) (hg:(wr.alloc o).grownBy w1 vN.ownBlock):w1.cell? ⟨xb,4,none⟩=some vN/\w1.frozen? ⟨xb,4,none⟩=false:=by
 have tV:qG B (λ_=>False) wr w1:=((qG.refl _ _ _).alloc Jh o).grown hg aJ (λg hg=>(I.on.lt g hg).1);have h:=I.sh.later tV Gf id;exact⟨h.row.cell rfl,h.row.frozen 4⟩
theorem Di.x5{w:ah}{sb xb bb bo cap:Nat}{l:aj}{k n i ch:Nat}{vN vS:ai}{ns:List (aj)}{zs:aC}{B:Nat}{wr w1:ah}{o:Obj}(I:Di w sb xb bb bo cap l k n i ch vN vS ns zs B wr)
  (Gf:xb<B) (Jh:B<=wr.heap.size) (hg:(wr.alloc o).grownBy w1 vS.ownBlock):w1.cell? ⟨xb,5,none⟩=some vS/\w1.frozen? ⟨xb,5,none⟩=false:=by
 have tV:qG B (λ_=>False) wr w1:=((qG.refl _ _ _).alloc Jh o).grown hg aJ (λg hg=>(I.os.lt g hg).1);have h:=I.sh.later tV Gf id;exact⟨h.row.cell rfl,h.row.frozen 5⟩
theorem FH(w:ah)(b:Nat)(x:ai)(t:aG)(hb:b=w.heap.size):∀j u,[x][j]?=some u->(w.alloc (.cells #[x] t)).cell? ((⟨b,0,none⟩:Addr).add j)=some u:=by subst hb;exact cell_one_new w x t
section
variable (sb xb bb bo cap:Nat)(BR:bb≠sb)(hbx:bb≠xb)(CQ:xb≠sb)(l:aj)(hl:l.length<2^60)(uF:l.length<=cap)(m:Nat)(hm4:4<=m)(hm:m<=300000)(k n i ch N7:Nat)
  (w:ah) (h:yX w sb (.slice (some ⟨bb,bo,none⟩) l.length cap) N7 none) (hx:Wp w xb k n i ch (.slice none 0 0) (.slice none 0 0) (.slice none 0 0)) (hb:xM w bb bo l) (Ah:bb<w.heap.size)
include BR hbx CQ hl uF hm4 hm h hx hb Ah in
theorem aeh(hs:sS l 32 m=none)(hN:¬1000<le l 32 4):
  Calls prog 30 #[.pointer (some ⟨sb,0,none⟩),.pointer (some ⟨xb,0,none⟩),.int .i64 (m:Int)] w λq w'=>q=.returned (.tuple #[])/\Gy w sb xb bb bo cap l m k n i ch w':=by
 have Kr:=h.lt;have Gf:xb<w.heap.size:=hx.row.lt;have c1:=h.Eo.c1;have f1:=ql.frozen h.Eo 1;have h0:=h.setAt 32;have PW:=(qG.refl w.heap.size (· =sb) w).setCell (p:=⟨sb,1,none⟩) (.inr rfl) (.int .i64 32);have xH:=hb.later PW Ah BR;have hlen:=Ky hs;obtain⟨N,eN⟩:∃N,le l 32 4=N:=⟨_,rfl⟩;obtain⟨RES,eR⟩:∃RES,yC l (32+m) N 36 [] []=RES:=⟨_,rfl⟩
 have HF:Hid (vX l m=Wl (32+m) RES):=by show vX l m=_;unfold vX;rw[hs];simp only;rw[au hN,eN,eR]
 have EN:Hid (le l 32 4=N):=eN;rw[eN]at hN;have HR:Hid (yC l (32+m) N 36 [] []=RES):=eR;have HS:Hid (sS l 32 m=none):=hs;clear eN eR hs;go_enter func30,ntmps30
 go_wp2_with(first|(go_at_call 60;refine(VF (sb:=sb) (bb:=bb) (bo:=bo) (cap:=cap) (l:=l) (at_:=32) (r:=none) _ m aF ag BR hl uF ag (by exact h0) (by exact xH) aJ).mono ?_;rintro q w1 ⟨rfl,AZ,yQ⟩;rw[HS.out]at AZ;have tV:=xH.later yQ aJ BR)|(go_at_call 29;refine(zn (sb:=sb) (bb:=bb) (bo:=bo) (cap:=cap) (l:=l) (at_:=32) _ _ 32 4 aF aF ag hl oq (by exact tV) ag).mono ?_;rintro q w' ⟨rfl,sH⟩;obtain rfl:=sH.symm;rw[EN.out])|(go_at_call 31;refine(vg (sb:=sb) (at_:=32) (r:=none) (decide ((N:Int)<=1000)) _ _ 7 32 aF aF aB oq).mono ?_;rintro q w2 ⟨rfl,Jc,zJ⟩))
 have RX:yX w2 sb (.slice (some ⟨bb,bo,none⟩) l.length cap) 32 none:=Jc.ok (ok':=true) aJ;have e0:(w.setCell ⟨sb,1,none⟩ (.int .i64 32)).heap.size=w.heap.size:=aA;have F8:qG w.heap.size (· =sb) w w2:=PW.trans ((yQ.mono ag (λ_ x=>x)).trans (zJ.mono (by have:=yQ.size;omega) (λ_ x=>x)));clear Jc AZ PW yQ zJ tV xH h0 e0
 have hI:Di w sb xb bb bo cap l k n i ch (.slice none 0 0) (.slice none 0 0) [] [] w.heap.size w2:=
  ⟨F8.mono (ay _) (λ_ x=>.inl x),RX,hx.later F8 Gf CQ,bY _ _ _ _,bY _ _ _ _,λg hg=>ou⟩
 clear RX F8 h hx c1 f1
 go_loopw [8,9,10,11,12] (λva vi _ _ _ wr=>∃c a:Nat,c<=N/\a<=32+m/\va=.int .i64 (a:Int)/\vi=.int .i64 (c:Int)/\
  ((∃ns zs vN vS,ns.length=c/\zs.length=c/\(∀j,zs.getD j 0<2^63)/\Di w sb xb bb bo cap l k n i ch vN vS ns zs w.heap.size wr/\Hid (yC l (32+m) (N-c) a ns zs=RES))\/
   (∃e,Hid (RES=.error e)/\qG w.heap.size (λk=>k=sb\/k=xb) w wr/\yX wr sb (.slice (some ⟨bb,bo,none⟩) l.length cap) 32 (some e)))) (λ_ i _ _ _ _=>N-(intOf i).toNat)
 case atStart=>exact⟨0,36,ag,ag,rfl,rfl,.inl ⟨[],[],_,_,rfl,rfl,aA,hI,HR⟩⟩
 case round=>
  obtain⟨c,a,hc,ha,rfl,rfl,uw⟩:=hrel;clear hI HR;rcases uw with⟨ns,zs,vN,vS,VS,hzs,hzb,I,H⟩|⟨e,HE,hB,hS⟩
  .have c0:=I.sc.Eo.c0;have c2:wr.cell? ⟨sb,2,none⟩=some (.int .i64 0):=I.sc.Eo.c2;have CU:=hb.later I.but Ah ag;by_cases qB:c<N
   .obtain⟨c',V3⟩:∃c',N-c=c'+1:=⟨N-c-1,ag⟩;have hcc:N-(c+1)=c':=ag;have H0:=H.out;rw[V3,yC]at H0
    have bad:∀x y w',x≠0->RES=.error (x,y)->yX w' sb (.slice (some ⟨bb,bo,none⟩) l.length cap) 32 (ug none (some (x,y)))->qG wr.heap.size (· =sb) wr w'->Gy w sb xb bb bo cap l m k n i ch w':=by intro x y w' _ hR h1 h2;refine⟨I.but.trans (h2.mono I.but.size (λ_ x=>.inl x)),?_⟩;rw[HF.out,hR];exact h1
    by_cases q1:32+m<a+2
    .rw[ax q1]at H0;have HX:Hid (RES=.error (7,a)):=H0.symm;clear H0 H V3 hcc
     go_wp2_with(first|(go_at_call 61;refine(Yl (sb:=sb) (at_:=32) (r:=none) _ _ 7 a aF aF aB fD).mono ?_;rintro q w4 ⟨rfl,Kv,xX⟩))
     exact axp
    .rw[au q1]at H0;obtain⟨kk,ek⟩:∃kk,le l a 2=kk:=⟨_,rfl⟩;have hkk:kk<65536:=by have:=IZ l 2 a;rw[ek]at this;exact this
     rw[ek]at H0;have EK:Hid (le l a 2=kk):=ek;clear ek;by_cases q2:kk<1\/255<kk\/32+m<a+6+kk
     .rw[ax q2]at H0;have HX:Hid (RES=.error (7,a)):=H0.symm;clear H0 H V3 hcc;by_cases p1:kk<1
      .go_wp2_with(first|(go_at_call 29;refine(zn (sb:=sb) (bb:=bb) (bo:=bo) (cap:=cap) (l:=l) (at_:=32) _ _ a 2 aF aF ag hl fD iW ag).mono ?_;rintro q w' ⟨rfl,sH⟩;obtain rfl:=sH.symm;rw[EK.out])|(go_at_call 61;refine(Yl (sb:=sb) (at_:=32) (r:=none) _ _ 7 (a) aF (by first|rfl|simp) aB fD).mono ?_;rintro q w4 ⟨rfl,Kv,xX⟩))
       exact axp
      .by_cases p2:255<kk
       .go_wp2_with(first|(go_at_call 29;refine(zn (sb:=sb) (bb:=bb) (bo:=bo) (cap:=cap) (l:=l) (at_:=32) _ _ a 2 aF aF ag hl fD iW ag).mono ?_;rintro q w' ⟨rfl,sH⟩;obtain rfl:=sH.symm;rw[EK.out])|(go_at_call 61;refine(Yl (sb:=sb) (at_:=32) (r:=none) _ _ 7 (a) aF (by first|rfl|simp) aB fD).mono ?_;rintro q w4 ⟨rfl,Kv,xX⟩))
        exact axp
       .have p3:32+m<a+6+kk:=ag
        go_wp2_with(first|(go_at_call 29;refine(zn (sb:=sb) (bb:=bb) (bo:=bo) (cap:=cap) (l:=l) (at_:=32) _ _ a 2 aF aF ag hl fD iW ag).mono ?_;rintro q w' ⟨rfl,sH⟩;obtain rfl:=sH.symm;rw[EK.out])|(go_at_call 61;refine(Yl (sb:=sb) (at_:=32) (r:=none) _ _ 7 (a) aF (by first|rfl|simp) aB fD).mono ?_;rintro q w4 ⟨rfl,Kv,xX⟩))
        exact axp
     .rw[au q2]at H0;have uD:(part l (a+2) kk).length=kk:=qF ag;have hsl:=wQ bb bo l.length cap ((a:Int)+2) ((a:Int)+2+(kk:Int)) (a+2) (a+2+kk) aA aA ag ag ag;have e1:a+2+kk-(a+2)=kk:=ag;rw[e1]at hsl;have hcv:=LD (CU.part (a:=a+2) (n:=kk) ag) kk uD (cap-(a+2));clear e1;obtain⟨nm,en⟩:∃nm,part l (a+2) kk=nm:=⟨_,rfl⟩;rw[en]at hcv H0;have ENM:Hid (part l (a+2) kk=nm):=en;clear en uD;by_cases q3:0<ns.length/\uh nm (ns.getD (ns.length-1) [])=true
      .rw[ax q3]at H0;have HX:Hid (RES=.error (7,a+2)):=H0.symm;clear H0 H V3 hcc;obtain⟨c0,rfl⟩:∃c0,c=c0+1:=⟨c-1,ag⟩;have c4:=I.sh.row.cell (i:=4) rfl;have QH:=I.on
       obtain⟨g,cn,ev⟩:∃g cn,vN=.slice (some ⟨g,0,none⟩) ns.length cn:=by
        rcases QH.2 with⟨_,h0⟩|⟨g,cn,_,h1,_⟩
        .omega
        .exact⟨g,cn,h1⟩
       rw[ev]at c4 QH;have hla:=QH.cellAt c0 ag;rw[Py ag]at hla;rw[VS]at c4;clear QH;have e2:ns.length-1=c0:=ag;rw[e2]at q3;obtain⟨la,el⟩:∃la,ns.getD c0 []=la:=⟨_,rfl⟩;rw[el]at hla q3;have hq:=q3.2;unfold uh at hq;clear q3 e2 el ev;rcases hq1:Op.bytesLess nm la with _|_
       .rw[hq1,jS]at hq
        go_wp2_with(first|(go_at_call 29;refine(zn (sb:=sb) (bb:=bb) (bo:=bo) (cap:=cap) (l:=l) (at_:=32) _ _ a 2 aF aF ag hl fD iW ag).mono ?_;rintro q w' ⟨rfl,sH⟩;obtain rfl:=sH.symm;rw[EK.out])|(go_at_call 61;refine(Yl (sb:=sb) (at_:=32) (r:=none) _ _ 7 (a+2) aF (by first|rfl|simp) aB fD).mono ?_;rintro q w4 ⟨rfl,Kv,xX⟩))
        exact ayx
       .clear hq
        go_wp2_with(first|(go_at_call 29;refine(zn (sb:=sb) (bb:=bb) (bo:=bo) (cap:=cap) (l:=l) (at_:=32) _ _ a 2 aF aF ag hl fD iW ag).mono ?_;rintro q w' ⟨rfl,sH⟩;obtain rfl:=sH.symm;rw[EK.out])|(go_at_call 61;refine(Yl (sb:=sb) (at_:=32) (r:=none) _ _ 7 (a+2) aF (by first|rfl|simp) aB fD).mono ?_;rintro q w4 ⟨rfl,Kv,xX⟩))
        exact ayx
      .rw[au q3]at H0;obtain⟨z,ez⟩:∃z,le l (a+2+kk) 4=z:=⟨_,rfl⟩;have Xd:z<2^32:=by have:=IZ l 4 (a+2+kk);rw[ez]at this;exact this
       rw[ez,hcc.symm]at H0;have EZ:Hid (le l (a+2+kk) 4=z):=ez;have HG:Hid _:=H0;have c4:=I.sh.row.cell (i:=4) rfl;have Jh:=I.but.size;clear ez H0 H V3 hcc bad;obtain⟨t,et⟩:∃t,rZ (zs++[z])=t:=⟨_,rfl⟩;have ET:Hid (rZ (zs++[z])=t):=et;have TQ:t<=65537:=et▸GX _;rw[et]at HG;clear et
       have amX:∀j,(zs++[z]).getD j 0<2^63:=by
        intro j;rw[bG,o9];split
        .have:=hzb j;rw[bG]at this;exact this
        .rcases j-zs.length with _|_
         .simp;omega
         .simp
       obtain⟨is,his,aj1,aj2,aj3⟩:=cO ae0;obtain⟨ii,hii,aj6,aj7,aj8⟩:=cO anA;have HNS:Hid (ns.length=c):=VS;have HZS:Hid (zs.length=c):=hzs;have E5:ns.length<1000:=ag;have asl:zs.length<1000:=ag;by_cases hc0:c=0
       .clear q3 VS hzs;subst hc0
        go_wp2_with(first|(go_at_call 29;refine(zn (sb:=sb) (bb:=bb) (bo:=bo) (cap:=cap) (l:=l) (at_:=32) _ _ a 2 aF aF ag hl fD iW ag).mono ?_;rintro q w' ⟨rfl,sH⟩;obtain rfl:=sH.symm;rw[EK.out])|(go_at_call 29;refine(zn (sb:=sb) (bb:=bb) (bo:=bo) (cap:=cap) (l:=l) (at_:=32) _ _ (a+2+kk) 4 aA aF ag hl fD iW ag).mono ?_;rintro q w' ⟨rfl,sH⟩;obtain rfl:=sH.symm;rw[EZ.out])|(at_builtin;refine wpList_append_own_at _ rfl _ _ 22 rfl w.heap.size 9 is (.string ⟨#[]⟩) 1 16 underlying22 his aj1 aj2 aj3 rfl aB _ _ _ rfl (I.on.alloc _) ⟨wr.heap.size,0,none⟩ 1 1 [.string ⟨nm.toArray⟩] rfl rfl (cell_one_new _ _ _) (TI _) bT ag aJ ?_;intro v1 w1 EW BL _ Kw;obtain⟨g1,p1,rfl⟩:=vI EW ag;have I1:=I.ak6 Kr Gf CQ Jh EW BL Kw;have VV:=I1.but.size;obtain⟨d4,f4⟩:=I.x4 Gf Jh BL;have d5:=I1.sh.row.cell (i:=5) rfl;clear BL EW Kw)|(at_builtin;refine wpList_append_own_at _ rfl _ _ 34 rfl w.heap.size 3 ii (.int .i64 0) 1 8 underlying34 hii aj6 aj7 aj8 rfl aB _ _ _ rfl (I1.os.alloc _) ⟨_,0,none⟩ 1 1 [.int .i64 (z:Int)] rfl rfl (FH _ _ _ _ aA) (TJ _) bT ag (by simp at VV⊢;omega) ?_;intro v2 w2 vH wS _ xJ;obtain⟨g2,p2,rfl⟩:=vI vH ag;have I2:=I1.aj0 Kr Gf CQ VV vH wS xJ;have aeC:=I2.but.size;obtain⟨x5,f5⟩:=I1.x5 Gf VV wS;have x55:=I2.sh.row.cell (i:=5) rfl;clear wS vH xJ)|(go_at_call 62;refine(GY _ (zs++[z]) amX aJ _ (by exact Ld I2.os)).mono ?_;rintro q w' ⟨rfl,sH⟩;obtain rfl:=sH.symm;rw[ET.out])|(go_at_call 31;refine(vg (sb:=sb) (at_:=32) (r:=none) (decide ((t:Int)<=65536)) _ _ 7 (a+2+kk) aF aA aB (by exact I2.sc)).mono ?_;rintro q w4 ⟨rfl,Kv,xX⟩))
        go_roundw
        case rel=>
         by_cases ht:65536<t
         .have h5:=Kv.ok (ok':=false) aJ;have h6:=HG.out;rw[ax ht]at h6;exact⟨0+1,a+6+kk,ag,ag,aV,aV,.inr ⟨(7,a+2+kk),h6.symm,I2.but.trans (xX.mono aeC (λ_ x=>.inl x)),h5⟩⟩
         .have h5:=Kv.ok (ok':=true) aJ;have h6:=HG.out;rw[au ht]at h6;exact⟨0+1,a+6+kk,ag,ag,aV,aV,.inl ⟨ns++[nm],zs++[z],_,_,awL,awK,amX,I2.step xX h5 Kr CQ aeC,h6⟩⟩
        case measure=>simp[intOf];omega
       .obtain⟨c0,rfl⟩:∃c0,c=c0+1:=⟨c-1,ag⟩;have QH:=I.on;obtain⟨g,cn,ev⟩:=vI QH ag;rw[ev]at QH;have hla:=QH.cellAt c0 ag;rw[Py ag]at hla;obtain⟨la,el⟩:∃la,ns.getD c0 []=la:=⟨_,rfl⟩;have e2:ns.length-1=c0:=ag;rw[e2,el]at q3;rw[el]at hla
        have hq:Op.bytesLess nm la=false/\(nm==la)=false:=by
         have:uh nm la=false:=by
          cases hh:uh nm la with
          |false=>rfl
          |true=>exact absurd ⟨ag,hh⟩ q3
         unfold uh at this;exact auY.1 this
        obtain⟨hq1,Yy⟩:=hq;subst ev;have QN:(c0:Int)<(ns.length:Int):=ag;clear q3 e2 el VS hzs QH
        go_wp2_with(first|(go_at_call 29;refine(zn (sb:=sb) (bb:=bb) (bo:=bo) (cap:=cap) (l:=l) (at_:=32) _ _ a 2 aF aF ag hl fD iW ag).mono ?_;rintro q w' ⟨rfl,sH⟩;obtain rfl:=sH.symm;rw[EK.out])|(go_at_call 29;refine(zn (sb:=sb) (bb:=bb) (bo:=bo) (cap:=cap) (l:=l) (at_:=32) _ _ (a+2+kk) 4 aA aF ag hl fD iW ag).mono ?_;rintro q w' ⟨rfl,sH⟩;obtain rfl:=sH.symm;rw[EZ.out])|(at_builtin;refine wpList_append_own_at _ rfl _ _ 22 rfl w.heap.size 9 is (.string ⟨#[]⟩) 1 16 underlying22 his aj1 aj2 aj3 rfl aB _ _ _ rfl (I.on.alloc _) ⟨wr.heap.size,0,none⟩ 1 1 [.string ⟨nm.toArray⟩] rfl rfl (cell_one_new _ _ _) (TI _) bT ag aJ ?_;intro v1 w1 EW BL _ Kw;obtain⟨g1,p1,rfl⟩:=vI EW ag;have I1:=I.ak6 Kr Gf CQ Jh EW BL Kw;have VV:=I1.but.size;obtain⟨d4,f4⟩:=I.x4 Gf Jh BL;have d5:=I1.sh.row.cell (i:=5) rfl;clear BL EW Kw)|(at_builtin;refine wpList_append_own_at _ rfl _ _ 34 rfl w.heap.size 3 ii (.int .i64 0) 1 8 underlying34 hii aj6 aj7 aj8 rfl aB _ _ _ rfl (I1.os.alloc _) ⟨_,0,none⟩ 1 1 [.int .i64 (z:Int)] rfl rfl (FH _ _ _ _ aA) (TJ _) bT ag (by simp at VV⊢;omega) ?_;intro v2 w2 vH wS _ xJ;obtain⟨g2,p2,rfl⟩:=vI vH ag;have I2:=I1.aj0 Kr Gf CQ VV vH wS xJ;have aeC:=I2.but.size;obtain⟨x5,f5⟩:=I1.x5 Gf VV wS;have x55:=I2.sh.row.cell (i:=5) rfl;clear wS vH xJ)|(go_at_call 62;refine(GY _ (zs++[z]) amX aJ _ (by exact Ld I2.os)).mono ?_;rintro q w' ⟨rfl,sH⟩;obtain rfl:=sH.symm;rw[ET.out])|(go_at_call 31;refine(vg (sb:=sb) (at_:=32) (r:=none) (decide ((t:Int)<=65536)) _ _ 7 (a+2+kk) aF aA aB (by exact I2.sc)).mono ?_;rintro q w4 ⟨rfl,Kv,xX⟩))
        go_roundw
        case rel=>
         by_cases ht:65536<t
         .have h5:=Kv.ok (ok':=false) aJ;have h6:=HG.out;rw[ax ht]at h6;exact⟨c0+1+1,a+6+kk,ag,ag,aV,aV,.inr ⟨(7,a+2+kk),h6.symm,I2.but.trans (xX.mono aeC (λ_ x=>.inl x)),h5⟩⟩
         .have h5:=Kv.ok (ok':=true) aJ;have h6:=HG.out;rw[au ht]at h6;exact⟨c0+1+1,a+6+kk,ag,ag,aV,aV,.inl ⟨ns++[nm],zs++[z],_,_,awL,awK,amX,I2.step xX h5 Kr CQ aeC,h6⟩⟩
        case measure=>simp[intOf];omega
   .have e:c=N:=ag
    have HX:Hid (RES=.ok (ns,zs,a)):=by have:=H.out;rw[show N-c=0 by omega,yC]at this;exact this.symm
    subst e;clear H
    go_wp2_with(first|(go_at_call 31;refine(vg (sb:=sb) (at_:=32) (r:=none) _ _ _ 7 a aF aF aB fD).mono ?_;rintro q w4 ⟨rfl,Kv,xX⟩))
    go_end0;refine⟨rfl,I.but.trans (xX.mono I.but.size (λ_ x=>.inl x)),?_⟩;rw[HF.out,HX.out];by_cases hae:a=32+m
    .have h5:=Kv.ok (ok':=true) (by simp<;>omega);rw[show Wl (32+m) (.ok (ns,zs,a))=.ok (ns,zs)from ax hae];exact⟨vN,vS,I.step xX h5 Kr CQ I.but.size⟩
    .have h5:=Kv.ok (ok':=false) (by simp<;>omega);rw[show Wl (32+m) (.ok (ns,zs,a))=.error (7,a)from au hae];exact h5
  .have E0:Hid (e.1≠0):=hS.errs e rfl;have c2:wr.cell? ⟨sb,2,none⟩=some (.int .i64 (e.1:Int)):=hS.Eo.c2;have hE:((e.1:Int)==0)=false:=avP
   have fin:∀w',yX w' sb (.slice (some ⟨bb,bo,none⟩) l.length cap) 32 (some e)->qG wr.heap.size (· =sb) wr w'->Gy w sb xb bb bo cap l m k n i ch w':=by intro w' h1 h2;refine⟨hB.trans (h2.mono hB.size (λ_ x=>.inl x)),?_⟩;rw[HF.out,HE.out];exact h1
   by_cases qB:c<N
   .go_wp2_with(first|(go_at_call 31;refine(vg (sb:=sb) (at_:=32) (r:=some e) _ _ _ 7 a aF aF aB fZ).mono ?_;rintro q w4 ⟨rfl,Kv,xX⟩))
    go_end0;exact⟨rfl,fin _ Kv xX⟩
   .go_wp2_with(first|(go_at_call 31;refine(vg (sb:=sb) (at_:=32) (r:=some e) _ _ _ 7 a aF aF aB fZ).mono ?_;rintro q w4 ⟨rfl,Kv,xX⟩))
    go_end0;exact⟨rfl,fin _ Kv xX⟩
end
def Dj(en:Int)(a m:Nat):aj->Option (Nat×Nat)
 |[]=>none
 |b::p=>if(m:Int)<en\/b.toNat=0 then Dj en (a+1) (m+1) p else some (8,a)
theorem Yo(en:Int)(b:UInt8):∀(p:aj)(a m:Nat),Dj en a m (p++[b])=ug (Dj en a m p) (qJ (decide (((m+p.length:Nat):Int)<en\/b.toNat=0)) 8 (a+p.length))
 |[],a,m=>by
  by_cases h:(m:Int)<en\/b.toNat=0
  .simp[Dj,ug,qJ,h]
  .simp[Dj,ug,qJ,h]
 |c::p,a,m=>by
  simp only[df,Dj,dQ];by_cases h:(m:Int)<en\/c.toNat=0
  .rw[ax h,ax h,Yo en b p (a+1) (m+1)];rw[show m+1+p.length=m+(p.length+1)by omega,show a+1+p.length=a+(p.length+1)by omega]
  .rw[au h,au h];rfl
theorem Xy(en:Int):∀(p:aj)(a m:Nat),PL (Dj en a m p)
 |[],_,_=>DW
 |b::p,a,m=>by
  unfold Dj;split
  .exact Xy en p _ _
  .exact BI aB
def tu(l:aj)(low:Bool)(ch ln:Nat)(en:Int):Nat->Nat->aj->Except (Nat×Nat) (aj×Nat)
 |0,a,qC=>.ok (qC,a)
 |f+1,a,qC=>
  if ln<=qC.length then .ok (qC,a)
  else match sS l a (min (ln-qC.length) ch)with
   |some e=>.error e
   |none=>match(if low then Dj en a qC.length (part l a (min (ln-qC.length) ch))else none)with
    |some e=>.error e
    |none=>tu l low ch ln en f (a+min (ln-qC.length) ch+8) (qC++part l a (min (ln-qC.length) ch))
theorem SX{P:aP}{ops:Array Oper}{o:Oper}{a:Act}{w:ah}{K:Act->ah->Prop}{Q:Exit->Act->ah->Prop}{E:Prop}
  (hg:o.guard=none) (s x:Operand) (t:aG) (uZ:o.op=Op.call {callee:=Callee.builtin Builtin.append,args:=#[s,x],argTypes:=#[t,t]})
  (base:Nat) (e:aG) (i:TypeInfo) (z:ai) (size bytes:Nat) (h1:P.underlying t=some (.slice e)) (h2:P.info? e=some i) (h3:i.zero=some z) (h4:i.size=size) (h5:i.bytes=bytes) (h6:z.cells.size=size) (h7:0<size)
  (v:ai) (n:Nat) (xs:aK) (hs:a.eval s=v) (vO:w.ownsRow base e size v n xs)
  (ad:Addr) (m c:Nat) (news:aK) (hx:a.eval x=.slice (some ad) m c) (hn:news.length=m*size) (hc:∀j u,news[j]?=some u->w.cell? (ad.add j)=some u) (h1c:∀u∈news,u.oneCell'=true)
  (b1:n+m<=maxLen) (b2:(n+m)*bytes<=140737488355328) (acF:base<=w.heap.size)
  (hK:∀v' w',w'.ownsRow base e size v' (n+m) (xs++news)->w.grownBy w' v.ownBlock->K (a.put o.dst v') w'):
  if Region.wanted o (yielded ops a.tmps)=true then Oper.wp P o a w K Q else E:=by
 have hw:Region.wanted o (yielded ops a.tmps)=true:=auh;rw[ax hw];obtain⟨v',w',hr,r1,r2,_⟩:=run_append_own_at (P:=P) w base t o.type e i z size bytes h1 h2 h3 h4 h5 h6 h7 v n xs vO ad m c news hn hc h1c b1 b2 acF;unfold Oper.wp;simp[execOp,uZ,resolve,invoke,builtin,hs,hx,hr,Result.andThen];exact hK v' w' r1 r2
structure zg(w:ah)(sb xb bb bo cap:Nat)(l:aj)(k n i ch:Nat)(vN vS vC:ai)(a:Nat)(qC:aj)(B:Nat)(r:Option (Nat×Nat))(wr:ah):Prop where
 but:qG B (λk=>k=sb\/k=xb) w wr
 sc:yX wr sb (.slice (some ⟨bb,bo,none⟩) l.length cap) a r
 sh:Wp wr xb k n i ch vN vS vC
 oc:wr.ownsRow B 5 1 vC qC.length (rP qC)
theorem zg.step{w:ah}{sb xb bb bo cap:Nat}{l:aj}{k n i ch:Nat}{vN vS vC:ai}{a a':Nat}{qC:aj}{B:Nat}{r r':Option (Nat×Nat)}{wr w':ah}(I:zg w sb xb bb bo cap l k n i ch vN vS vC a qC B r wr)
  (hb:qG wr.heap.size (· =sb) wr w') (hs:yX w' sb (.slice (some ⟨bb,bo,none⟩) l.length cap) a' r') (Kr:sb<B) (CQ:xb≠sb) (Jh:B<=wr.heap.size):zg w sb xb bb bo cap l k n i ch vN vS vC a' qC B r' w':=
 ⟨I.but.trans (hb.mono Jh (λ_ x=>.inl x)),hs,I.sh.later hb I.sh.row.lt CQ,
  qY I.oc (λg hg=>hb.block g ((I.oc.lt g hg).2) (by have:=(I.oc.lt g hg).1;omega))⟩
section
variable (sb xb bb bo cap:Nat)(BR:bb≠sb)(hbx:bb≠xb)(CQ:xb≠sb)(l:aj)(hl:l.length<2^60)(uF:l.length<=cap)(k n i ch N7:Nat)(NU:1<=k)(SY:k<=128)(hi:i<128)(vN vS:ai)(zs:aC)(hz:∀j,zs.getD j 0<2^63)(Xd:zs.length<2^60)
  (ln:Nat) (Je:ln<=65537) (w:ah) (hx:Wp w xb k n i ch vN vS (.slice none 0 0)) (hS:acb w vS (uH zs)) (hb:xM w bb bo l) (Ah:bb<w.heap.size)
theorem VG{k:Nat}(hk:1<=k)(zs:aC):uu k zs<=65537:=by
 rw[VE hk];have h1:=GX zs;have h2:=nz (rZ zs) k;split
 .rename_i h;rcases Nat.eq_or_lt_of_le hk with rfl|h3
  .simp at h
  .have h4:rZ zs/k<=rZ zs/2:=Nat.div_le_div_left h3 ag;omega
 .omega
include NU SY hz Xd hx hS in
theorem aei(e:Nat×Nat)(h:yX w sb (.slice (some ⟨bb,bo,none⟩) l.length cap) N7 (some e)):
  Calls prog 33 #[.pointer (some ⟨sb,0,none⟩),.pointer (some ⟨xb,0,none⟩),.int .i64 (ln:Int)] w λq w'=>q=.returned (.tuple #[])/\w'.heap=w.heap/\qG w.heap.size (λk=>k=sb\/k=xb) w w':=by
 have x0:=hx.row.cell (i:=0) rfl;have x2:=hx.row.cell (i:=2) rfl;have x5:=hx.row.cell (i:=5) rfl;have x6:=hx.row.cell (i:=6) rfl;have e0:e.1≠0:=h.errs e rfl;have c2:w.cell? ⟨sb,2,none⟩=some (.int .i64 (e.1:Int)):=h.Eo.c2;have hE:((e.1:Int)==0)=false:=aJ;have hT:=GX zs;have hL:=VG NU zs;obtain⟨t,et⟩:∃t,rZ zs=t:=⟨_,rfl⟩;obtain⟨L,eL⟩:∃L,uu k zs=L:=⟨_,rfl⟩;have ET:Hid (rZ zs=t):=et;have EL:Hid (uu k zs=L):=eL;rw[et]at hT;rw[eL]at hL;clear et eL e0
 have cT:∀nq,Calls prog 62 #[vS] (w.drewN nq) λr w'=>r=.returned (.int .i64 (t:Int))/\w'=w.drewN nq:=λnq=>by exact ayF
 have cL:∀nq,Calls prog 32 #[.int .i64 (k:Int),vS] (w.drewN nq) λr w'=>r=.returned (.int .i64 (L:Int))/\w'=w.drewN nq:=λnq=>by exact ax6
 go_enter func33,ntmps33;go_wp2
 go_quiet (first|(go_at_call 62;exact Calls.quiet_of_same (cT _))|(go_at_call 32;exact Calls.quiet_of_same (cL _)))
 clear cT cL;go_wp2
 go_loopw [7,8,9] (λ_ _ _ wr=>wr=w.drewN nq) (λ_ _ _ _=>1)
 case atStart=>rfl
 case round=>
  obtain rfl:=hrel;by_cases h0:0<ln
  .go_wp2;go_end0;exact⟨rfl,rfl,(qG.refl _ _ _).drewN _⟩
  .go_wp2;go_end0;exact⟨rfl,rfl,(qG.refl _ _ _).drewN _⟩
theorem uB{w:ah}{base e n:Nat}{v:ai}{xs:aK}(h:w.ownsRow base e 1 v n xs):∃ba cap,v=.slice ba n cap:=by
 rcases h.2 with⟨h1,h0⟩|⟨g,c,_,h1,_⟩
 .exact⟨none,0,by rw[h1,h0]⟩
 .exact⟨_,c,h1⟩
theorem Le(sb:Nat)(X Y:Int)(w:ah):
  Calls prog 31 #[.pointer (some ⟨sb,0,none⟩),.bool true,.int .i64 X,.int .i64 Y] w λq w'=>q=.returned (.tuple #[])/\w'=w:=by
 go_enter func31,ntmps31;go_wp2;go_end0;exact⟨rfl,rfl⟩
theorem Yp(sb:Nat)(X Y:Int)(e:Nat)(he:e≠0)(w:ah)(h:w.cell? ⟨sb,2,none⟩=some (.int .i64 (e:Int))):
  Calls prog 31 #[.pointer (some ⟨sb,0,none⟩),.bool false,.int .i64 X,.int .i64 Y] w λq w'=>q=.returned (.tuple #[])/\w'=w:=by
 have LM:((e:Int)==0)=false:=aJ;clear he;go_enter func31,ntmps31;go_wp2;go_end0;go_wp2;go_end0;exact⟨rfl,rfl⟩
def VH(w:ah)(sb xb bb bo cap:Nat)(l:aj)(k n i ch:Nat)(vN vS:ai)(RES:Except (Nat×Nat) (aj×Nat))(w':ah):Prop:=
 match RES with
 | .error e=>∃vC a qC,zg w sb xb bb bo cap l k n i ch vN vS vC a qC w.heap.size (some e) w'
 | .ok (qC,a)=>∃vC,zg w sb xb bb bo cap l k n i ch vN vS vC a qC w.heap.size none w'
theorem zg.drewN{w:ah}{sb xb bb bo cap:Nat}{l:aj}{k n i ch:Nat}{vN vS vC:ai}{a:Nat}{qC:aj}{B:Nat}{r:Option (Nat×Nat)}{wr:ah}(I:zg w sb xb bb bo cap l k n i ch vN vS vC a qC B r wr)(nq:Nat):zg w sb xb bb bo cap l k n i ch vN vS vC a qC B r (wr.drewN nq):=
 ⟨I.but.drewN nq,I.sc.heap rfl,⟨I.sh.row⟩,qY I.oc (λ_ _=>rfl)⟩
theorem zg.setAt{w:ah}{sb xb bb bo cap:Nat}{l:aj}{k n i ch:Nat}{vN vS vC:ai}{a:Nat}{qC:aj}{B:Nat}{r:Option (Nat×Nat)}{wr:ah}(I:zg w sb xb bb bo cap l k n i ch vN vS vC a qC B r wr)(x:Nat)(Kr:sb<B)(CQ:xb≠sb)(Jh:B<=wr.heap.size):zg w sb xb bb bo cap l k n i ch vN vS vC x qC B r (wr.setCell ⟨sb,1,none⟩ (.int .i64 (x:Int))):=
 I.step (qG.setCell (S:=(· =sb)) (p:=⟨sb,1,none⟩) (qG.refl _ _ _) (.inr rfl) _) (I.sc.setAt x) Kr CQ Jh
theorem amY{w:ah}{sb xb bb bo cap:Nat}{l:aj}{k n i ch:Nat}{vN vS vC:ai}{a:Nat}{qC:aj}{B:Nat}{r r':Option (Nat×Nat)}{wr w':ah}{g j:Nat}{u:ai}(I:zg w sb xb bb bo cap l k n i ch vN vS vC a qC B r wr)
  (hb:qG wr.heap.size (· =sb) wr w') (hs:yX w' sb (.slice (some ⟨bb,bo,none⟩) l.length cap) a r') (CQ:xb≠sb) (hgs:g≠sb) (hg:g<wr.heap.size) (hc:wr.cell? ⟨g,j,none⟩=some u):
  w'.cell? ⟨sb,1,none⟩=some (.int .i64 (a:Int))/\w'.cell? ⟨xb,6,none⟩=some vC/\w'.cell? ⟨g,j,none⟩=some u:=
 ⟨hs.Eo.c1,(I.sh.later hb I.sh.row.lt CQ).row.cell rfl,(hb.cell (p:=⟨g,j,none⟩) hg hgs).trans hc⟩
theorem afo{W:ah}{xb c q p ln:Nat}{ba:aW}(h:W.cell? ⟨xb,6,none⟩=some (.slice ba (c+q) p))(hq:1<=q)(hc:c<ln):(ln-match W.cell? ⟨xb,6,none⟩with|some (.slice _ n _)=>n|_=>0)<ln-c:=by rw[h];simp only;omega
theorem zg.stored{w:ah}{sb xb bb bo cap:Nat}{l:aj}{k n i ch:Nat}{vN vS vC:ai}{a q g2 p2:Nat}{qC pt:aj}{B:Nat}{r:Option (Nat×Nat)}{w1 w2:ah}(I:zg w sb xb bb bo cap l k n i ch vN vS vC a qC B r w1)
  (hs:yX w1 sb (.slice (some ⟨bb,bo,none⟩) l.length cap) a r) (rq:qG B (λ_=>False) w1 w2) (uD:pt.length=q) (vO:w2.ownsRow B 5 1 (.slice (some ⟨g2,0,none⟩) (qC.length+q) p2) (qC.length+q) (rP qC++rP pt)) (Kr:sb<B) (Gf:xb<B) (CQ:xb≠sb):
  zg w sb xb bb bo cap l k n i ch vN vS (.slice (some ⟨g2,0,none⟩) (qC.length+q) p2) a (qC++pt) B r (w2.setCell ⟨xb,6,none⟩ (.slice (some ⟨g2,0,none⟩) (qC.length+q) p2)):=by
 have uQ:qG B (· =xb) w1 (w2.setCell ⟨xb,6,none⟩ (.slice (some ⟨g2,0,none⟩) (qC.length+q) p2)):=qG.setCell (S:=(· =xb)) (p:=⟨xb,6,none⟩) (rq.mono (ay _) (λ_ x=>x.elim)) (.inr rfl) _;refine⟨I.but.trans (uQ.mono (ay _) (λ_ x=>.inr x)),hs.later uQ Kr (λe=>CQ e.symm),(I.sh.later rq Gf id).ass _,?_⟩;rw[bM,uD];have:=dR vO (a:=⟨xb,6,none⟩) Gf (.slice (some ⟨g2,0,none⟩) (qC.length+q) p2);simpa[rP]using this
theorem amZ{w:ah}{sb xb bb bo cap:Nat}{l:aj}{k n i ch:Nat}{vN vS vC:ai}{a:Nat}{qC:aj}{B:Nat}{r:Option (Nat×Nat)}{w1 w2:ah}{ba:aW}{cl cc:Nat}(I:zg w sb xb bb bo cap l k n i ch vN vS vC a qC B r w1)(ev:vC=.slice ba cl cc)
  (Jh:B<=w1.heap.size) (Kr:sb<B) (Gf:xb<B) (hg:w1.drew.grownBy w2 (Value.slice ba cl cc).ownBlock):
  qG B (λ_=>False) w1 w2/\w2.cell? ⟨sb,0,none⟩=some (.slice (some ⟨bb,bo,none⟩) l.length cap)/\w2.cell? ⟨sb,1,none⟩=some (.int .i64 (a:Int))/\w2.cell? ⟨xb,6,none⟩=some (.slice ba cl cc)/\w2.frozen? ⟨xb,6,none⟩=false:=by
 subst ev;have tV:qG B (λ_=>False) w1 w2:=((qG.refl _ _ _).drew).grown hg Jh (λg hg=>(I.oc.lt g hg).1);have h1:=I.sc.later tV Kr id;have h2:=I.sh.later tV Gf id;exact⟨tV,h1.Eo.c0,h1.Eo.c1,h2.row.cell rfl,h2.row.frozen 6⟩
include BR hbx CQ hl uF NU SY hi hz Xd Je hx hS hb Ah in
theorem ahp(h:yX w sb (.slice (some ⟨bb,bo,none⟩) l.length cap) N7 none)(hat:N7<2^58)(hl2:l.length<2^58)(aq8:1<=ch)(aq9:ch<=65536):
  Calls prog 33 #[.pointer (some ⟨sb,0,none⟩),.pointer (some ⟨xb,0,none⟩),.int .i64 (ln:Int)] w λq w'=>q=.returned (.tuple #[])/\
   VH w sb xb bb bo cap l k n i ch vN vS (tu l (decide (i<k)) ch ln ((rZ zs:Int)-((i*uu k zs:Nat):Int)) ln N7 []) w':=by
 have Kr:=h.lt;have Gf:xb<w.heap.size:=hx.row.lt;have x0:=hx.row.cell (i:=0) rfl;have x2:=hx.row.cell (i:=2) rfl;have x5:=hx.row.cell (i:=5) rfl;have hT:=GX zs;have hL:=VG NU zs;obtain⟨t,et⟩:∃t,rZ zs=t:=⟨_,rfl⟩;obtain⟨L,eL⟩:∃L,uu k zs=L:=⟨_,rfl⟩;have ET:Hid (rZ zs=t):=et;have EL:Hid (uu k zs=L):=eL;rw[et]at hT;rw[eL]at hL;have hiL:i*L<=128*65537:=iI ag hL;obtain⟨iL,eiL⟩:∃iL,i*L=iL:=⟨_,rfl⟩;have hmul:((i:Int)*(L:Int))=(iL:Int):=by rw[<-eiL];simp
 rw[eiL]at hiL;rw[et,eL,eiL];clear et eL eiL
 have cT:∀nq,Calls prog 62 #[vS] (w.drewN nq) λr w'=>r=.returned (.int .i64 (t:Int))/\w'=w.drewN nq:=λnq=>by exact ayF
 have cL:∀nq,Calls prog 32 #[.int .i64 (k:Int),vS] (w.drewN nq) λr w'=>r=.returned (.int .i64 (L:Int))/\w'=w.drewN nq:=λnq=>by exact ax6
 obtain⟨RES,eR⟩:∃RES,tu l (decide (i<k)) ch ln ((t:Int)-(iL:Int)) ln N7 []=RES:=⟨_,rfl⟩;have HR:Hid (tu l (decide (i<k)) ch ln ((t:Int)-(iL:Int)) ln N7 []=RES):=eR;rw[eR];clear eR;go_enter func33,ntmps33;go_wp2
 go_quiet (first|(go_at_call 62;exact Calls.quiet_of_same (cT _))|(go_at_call 32;exact Calls.quiet_of_same (cL _)))
 clear cT cL;go_wp2
 have hI:zg w sb xb bb bo cap l k n i ch vN vS (.slice none 0 0) N7 [] w.heap.size none (w.drewN nq):=
  ⟨(qG.refl _ _ _).drewN _,h.heap rfl,hx.later ((qG.refl _ (λ_=>False) _).drewN _) Gf id,bY _ _ _ _⟩
 clear x0 x2 x5
 go_loopw [7,8,9] (λ_ _ _ wr=>∃vC a qC,qC.length<=ln/\a<2^58/\
   ((∃f,ln-qC.length<=f/\zg w sb xb bb bo cap l k n i ch vN vS vC a qC w.heap.size none wr/\Hid (tu l (decide (i<k)) ch ln ((t:Int)-(iL:Int)) f a qC=RES))\/
    (∃e,Hid (RES=.error e)/\zg w sb xb bb bo cap l k n i ch vN vS vC a qC w.heap.size (some e) wr))/\True) (λ_ _ _ wr=>ln-(match wr.cell? ⟨xb,6,none⟩with|some (.slice _ n _)=>n|_=>0))
 case atStart=>exact⟨_,N7,[],aA,hat,.inl ⟨ln,aA,hI,HR⟩,trivial⟩
 case round=>
  obtain⟨vC,a,qC,LP,ha,uw,_⟩:=hrel;clear hI HR h hx;rcases uw with⟨f,hf,I,H⟩|⟨e,HE,I⟩
  .obtain⟨ba,cc,ev⟩:=uB I.oc;have x6:=I.sh.row.cell (i:=6) rfl;have x3:=I.sh.row.cell (i:=3) rfl;have hw6:(match wr.cell? ⟨xb,6,none⟩with|some (.slice _ n _)=>n|_=>0)=qC.length:=by rw[x6,ev]
   rw[ev]at x6;have c2:wr.cell? ⟨sb,2,none⟩=some (.int .i64 0):=I.sc.Eo.c2;have CU:=hb.later I.but Ah ag;have Jh:=I.but.size;have QC:=I.sc.lt;have Pz:bb<wr.heap.size:=ag;by_cases qB:qC.length<ln
   .obtain⟨f',rfl⟩:∃f',f=f'+1:=⟨f-1,ag⟩;have H0:=H.out;rw[tu,au ag]at H0;clear H;obtain⟨q,eq⟩:∃q,min (ln-qC.length) ch=q:=⟨_,rfl⟩;have hq0:1<=q/\q<=ln-qC.length/\q<=ch:=ag;rw[eq]at H0
    go_upto_if 56 with fail
    go_cut [7]from 30 to 148 (λs7 wx=>s7=.int .i64 (q:Int)/\wx=wr)
    case first=>
     by_cases hgt:ch<ln-qC.length
     .have hq:q=ch:=ag;subst hq;go_wp2
      go_meet
      exact⟨rfl,rfl⟩
     .have hq:(ln:Int)-(qC.length:Int)=(q:Int):=ag;go_wp2
      go_meet
      exact⟨by first|rfl|rw[hq],rfl⟩
    case rest=>
     obtain⟨rfl,rfl⟩:=hcut;cases N_:sS l a q with
     |some e=>
      rw[N_]at H0;have HX:Hid (RES=.error e):=H0.symm;have HS:Hid (sS l a q=some e):=N_;clear H0 N_
      go_wp2_with(first|(go_at_call 60;refine(VF (sb:=sb) (bb:=bb) (bo:=bo) (cap:=cap) (l:=l) (at_:=a) (r:=none) _ q aF ag BR hl uF ag fD iW (by exact Pz)).mono ?_;rintro q' w1 ⟨rfl,AZ,yQ⟩;rw[HS.out]at AZ;have c2':w1.cell? ⟨sb,2,none⟩=some (.int .i64 (e.1:Int)):=AZ.Eo.c2;have E0:((e.1:Int)==0)=false:=by(have:=AZ.errs e rfl;simp;omega)))
      refine dS (iF rfl _ _ _) rfl ?_;refine⟨rfl,?_⟩;rw[HX.out];exact⟨vC,a,qC,I.step yQ AZ Kr CQ Jh⟩
     |none=>
      rw[N_]at H0;have HS:Hid (sS l a q=none):=N_;have aub:=Ky N_;clear N_
      go_upto_region 8 with(first|(go_at_call 60;refine(VF (sb:=sb) (bb:=bb) (bo:=bo) (cap:=cap) (l:=l) (at_:=a) (r:=none) _ q aF ag BR hl uF ag fD iW (by exact Pz)).mono ?_;rintro q' w1 ⟨rfl,AZ,yQ⟩;rw[HS.out]at AZ;have c2':w1.cell? ⟨sb,2,none⟩=some (.int .i64 0):=AZ.Eo.c2;have x66:=(yQ.cell (p:=⟨xb,6,none⟩) I.sh.row.lt CQ).trans x6))
      obtain⟨i0,zo,xY,wW,vV⟩:=cO Hy;have I1:=I.step yQ AZ Kr CQ Jh;have VV:=I1.but.size;have k0:=AZ.Eo.c0;have k1:=AZ.Eo.c1;have hby:xM w1 bb bo l:=CU.later yQ Pz ag;have hsl:=wQ bb bo l.length cap (a:Int) ((a:Int)+(q:Int)) a (a+q) rfl aA ag ag ag;rw[iJ]at hsl;have uD:(part l a q).length=q:=qF ag;have FK:=(hby.part (a:=a) (n:=q) ag).news
      have hoc:w1.drew.ownsRow w.heap.size 5 1 (.slice ba qC.length cc) qC.length (rP qC):=by rw[<-ev];exact qY I1.oc (λg _=>rfl)
      have RU:IntKind.i64.wrap ((a:Int)+(q:Int))=(a:Int)+(q:Int):=dH _ ag;have HW:Hid _:=hw6;clear x6 x3 hw6 c2 c2'
      go_cut []from 30 to 148 (λwx=>∃g2 p2,zg w sb xb bb bo cap l k n i ch vN vS (.slice (some ⟨g2,0,none⟩) (qC.length+q) p2) a (qC++part l a q) w.heap.size none wx)
      case first=>
       go_region_law ((refine SX rfl _ _ 24 rfl w.heap.size 5 i0 (.int .u8 0) 1 1 underlying24 zo xY wW vV rfl aB _ _ _ rfl hoc ⟨bb,bo+a,none⟩ q (cap-a) (rP (part l a q)) rfl (by rw[ru,uD];omega) FK (KJ _) bT ag (by exact VV) ?_;intro v2 w2 vH wS;obtain⟨g2,p2,rfl⟩:=vI vH ag;obtain⟨rq,k0',k1',x6',f6'⟩:=amZ I1 ev VV Kr Gf wS))
       all_goals(go_wp2_with fail;go_meet;exact⟨_,_,I1.stored AZ rq uD vH Kr Gf CQ⟩)
      case rest=>
      obtain⟨g2,p2,I2⟩:=hcut;clear hoc FK hsl RU hby k0 k1 I1 VV AZ yQ x66 I CU Jh QC Pz ev;have HP:Hid ((part l a q).length=q):=uD;have HG:Hid _:=H0;clear uD H0;by_cases Jd:i<k
      .have ast:(i:Int)<(k:Int):=ag;have hdk:decide (i<k)=true:=aJ
       have HG2:Hid ((match Dj ((t:Int)-(iL:Int)) a qC.length (part l a q)with|some e=>.error e|none=>tu l (decide (i<k)) ch ln ((t:Int)-(iL:Int)) f' (a+q+8) (qC++part l a q))=RES):=by exact ax9
       clear HG hdk;go_wp2
       go_loopw [9] (λvm wr=>∃c,c<=q/\vm=.int .i64 ((qC.length+c:Nat):Int)/\zg w sb xb bb bo cap l k n i ch vN vS (.slice (some ⟨g2,0,none⟩) (qC.length+q) p2) a (qC++part l a q) w.heap.size (Dj ((t:Int)-(iL:Int)) a qC.length ((part l a q).take c)) wr) (λm _=>qC.length+q-(intOf m).toNat)
       case atStart=>exact⟨0,ag,rfl,by simpa[Dj]using I2⟩
       case round=>
        obtain⟨c,hc,rfl,J⟩:=hrel;clear I2;have x0:=J.sh.row.cell (i:=0) rfl;have x2:=J.sh.row.cell (i:=2) rfl;have x6:=J.sh.row.cell (i:=6) rfl;have c1:=J.sc.Eo.c1;have Jh:=J.but.size;by_cases hcq:c<q
        .have hib:sV (qC++part l a q) (qC.length+c)=sV (part l a q) c:=by
          simp[sV,ji]
         have hoc:=J.oc;rw[show(qC++part l a q).length=qC.length+q by rw[bM,HP.out]]at hoc;have hcell:=hoc.cellAt (qC.length+c) ag;obtain⟨u,hu⟩:∃u,(rP (qC++part l a q))[qC.length+c]?=some u:=⟨_,bQ (by rw[ru,bM,HP.out];omega)⟩;obtain⟨_,rfl⟩:=JE hu;rw[hu,hib]at hcell
         have TP:(part l a q).take (c+1)=(part l a q).take c++[(part l a q).getD c 0]:=by rw[oU (by rw[HP.out];omega)];simp[bQ (show c<(part l a q).length by rw[HP.out];omega)]
         have hsn:=Yo ((t:Int)-(iL:Int)) ((part l a q).getD c 0) ((part l a q).take c) a qC.length;rw[<-TP,jf,HP.out,ni ag]at hsn;obtain⟨y,ey⟩:∃y,sV (part l a q) c=y:=⟨_,rfl⟩;have ey':((part l a q).getD c 0).toNat=y:=ey;rw[ey]at hcell;rw[ey']at hsn;have HSN:Hid _:=hsn;clear hu hib hoc TP hsn ey ey';generalize Dj ((t:Int)-(iL:Int)) a qC.length ((part l a q).take c)=rc at J HSN;have aeC:=J.but.size;have hgl:g2<wr.heap.size:=(J.oc.lt g2 rfl).2;have hgs:g2≠sb:=by have:=(J.oc.lt g2 rfl).1;omega
         have hY:(a:Int)+((qC.length:Int)+(c:Int))-(qC.length:Int)=((a+c:Nat):Int):=ag;have asu:IntKind.i64.wrap ((a:Int)+((qC.length:Int)+(c:Int)))=(a:Int)+((qC.length:Int)+(c:Int)):=dH _ ag;have Xi:IntKind.i64.wrap ((a:Int)+((qC.length:Int)+(c:Int))-(qC.length:Int))=((a:Int)+(c:Int)):=(dH _ ag).trans ag;have aq_:IntKind.i64.wrap ((a:Int)+(c:Int))=(a:Int)+(c:Int):=dH _ ag;have F_:=UW g2 0 (qC.length+q) p2 ((qC.length:Int)+(c:Int)) (qC.length+c) aA ag;rw[bJ]at F_;by_cases hm:((qC.length:Int)+(c:Int))<(t:Int)-(iL:Int)
         .have EE:ug rc (qJ (decide (((qC.length+c:Nat):Int)<(t:Int)-(iL:Int)\/y=0)) 8 (a+c))=rc:=by
           exact ay0
          have HEE:Hid _:=EE;clear EE
          go_wp2_with fail
          go_big_quiet (fail)
          go_wp2_with fail
          go_big_quiet (first|(go_at_call 31;exact(Le _ _ _ _).mono (λ_ _ h=>⟨h.1,_,h.2⟩)))
          go_wp2_with fail
          go_roundw
          case rel=>exact⟨c+1,ag,aV,avz⟩
          case measure=>simp[intOf];omega
         .have Tf:decide (((qC.length:Int)+(c:Int))<(t:Int)-(iL:Int))=false:=aJ;by_cases hy0:y=0
          .have EE:ug rc (qJ (decide (((qC.length+c:Nat):Int)<(t:Int)-(iL:Int)\/y=0)) 8 (a+c))=rc:=by
            exact ay0
           have HEE:Hid _:=EE;clear EE hm;subst hy0
           go_wp2_with fail
           go_big_quiet (fail)
           go_wp2_with fail
           go_big_quiet (first|(go_at_call 31;exact(Le _ _ _ _).mono (λ_ _ h=>⟨h.1,_,h.2⟩)))
           go_wp2_with fail
           go_roundw
           case rel=>exact⟨c+1,ag,aV,avz⟩
           case measure=>simp[intOf];omega
          .have hyf:((y:Int)==0)=false:=aJ;cases rc with
           |some e=>
            have HEE:Hid (ug (some e) (qJ (decide (((qC.length+c:Nat):Int)<(t:Int)-(iL:Int)\/y=0)) 8 (a+c))=some e):=rfl;have E0:e.1≠0:=J.sc.errs e rfl;have c2:∀nq,(wr.drewN nq).cell? ⟨sb,2,none⟩=some (.int .i64 (e.1:Int)):=λ_=>J.sc.Eo.c2
            clear hm
            go_wp2_with fail
            go_big_quiet (fail)
            go_wp2_with fail
            go_big_quiet (first|(go_at_call 31;exact(Yp _ _ _ e.1 E0 _ (c2 _)).mono (λ_ _ h=>⟨h.1,_,h.2⟩)))
            go_wp2_with fail
            go_roundw
            case rel=>exact⟨c+1,ag,aV,avz⟩
            case measure=>simp[intOf];omega
           |none=>
            have HM:Hid (¬((qC.length:Int)+(c:Int))<(t:Int)-(iL:Int)):=hm;clear hm
            go_wp2_with fail
            go_big_quiet (fail)
            go_wp2_with fail
            go_region_held (λw'=>w'.cell? ⟨sb,1,none⟩=some (.int .i64 (a:Int))/\w'.cell? ⟨xb,6,none⟩=some (.slice (some ⟨g2,0,none⟩) (qC.length+q) p2)/\w'.cell? ⟨g2,qC.length+c,none⟩=some (.int .u8 (y:Int))) (go_keep) ((go_at_call 31;refine(vg (sb:=sb) (at_:=a) (r:=none) _ _ _ 8 (a+c) aF (by first|rfl|(rw[aq_];simp)|omega) aB (by exact J.sc.heap rfl)).mono ?_;rintro q' w5 ⟨rfl,QL,Y_⟩;obtain⟨s1,s2,s3⟩:=amY (J.drewN _) Y_ QL CQ hgs hgl hcell))
            go_wp2_with fail
            go_roundw
            case rel=>
             refine⟨c+1,ag,aV,?_⟩;rw[HSN.out];have h7:=HM.out;clear asu Xi aq_ hY F_ Tf hyf;exact(J.drewN _).step Y_ (QL.ok (by symm;simp;omega)) Kr CQ aeC
            case measure=>simp[intOf];omega
        .have e:c=q:=ag;subst e;have ht:(part l a c).take c=part l a c:=gZ (by rw[HP.out];omega);rw[ht]at J;have f1:=ql.frozen J.sc.Eo 1;clear ht x0 x2;go_wp2
         go_quiet (fail)
         go_wp2;have I3:=(J.drewN nq).setAt (a+c+8) Kr CQ J.but.size
         go_roundw
         case rel=>
          refine⟨.slice (some ⟨g2,0,none⟩) (qC.length+c) p2,a+c+8,qC++part l a c,auq,ag,?_,trivial⟩;have h6:=HG2.out;cases hp:Dj ((t:Int)-(iL:Int)) a qC.length (part l a c)with
          |none=>
           rw[hp]at h6 I3;exact .inl ⟨f',auq,I3,h6⟩
          |some e=>
           rw[hp]at h6 I3;exact .inr ⟨e,h6.symm,I3⟩
         case measure=>
          exact ayi
      .have ast:decide ((i:Int)<(k:Int))=false:=aJ;have hdk:decide (i<k)=false:=aJ;have x0:=I2.sh.row.cell (i:=0) rfl;have x2:=I2.sh.row.cell (i:=2) rfl;have c1:=I2.sc.Eo.c1;have f1:=ql.frozen I2.sc.Eo 1;have hqq:(qC.length:Int)<(qC.length:Int)+(q:Int):=ag
       have HG2:Hid (tu l (decide (i<k)) ch ln ((t:Int)-(iL:Int)) f' (a+q+8) (qC++part l a q)=RES):=by exact ax9
       clear HG hdk;go_wp2
       go_loopw [9] (λvm wr=>vm=.int .i64 (qC.length:Int)/\wr=wc) (λ_ _=>1)
       case atStart=>exact⟨rfl,rfl⟩
       case round=>
        obtain⟨rfl,rfl⟩:=hrel;go_wp2
        go_quiet (fail)
        go_wp2;have I3:=(I2.drewN nq).setAt (a+q+8) Kr CQ I2.but.size
        go_roundw
        case rel=>exact⟨_,a+q+8,qC++part l a q,auq,ag,.inl ⟨f',auq,I3,HG2⟩,trivial⟩
        case measure=>
         exact ayi
   .have HX:Hid (RES=.ok (qC,a)):=by
     have:=H.out;cases f with
     |zero=>exact this.symm
     |succ f=>rw[tu,ax ag]at this;exact this.symm
    clear H;go_wp2;go_end0;exact⟨rfl,by rw[HX.out];exact⟨vC,I⟩⟩
  .obtain⟨ba,cc,ev⟩:=uB I.oc;have x6:=I.sh.row.cell (i:=6) rfl;rw[ev]at x6;have E0:Hid (e.1≠0):=I.sc.errs e rfl;have c2:wr.cell? ⟨sb,2,none⟩=some (.int .i64 (e.1:Int)):=I.sc.Eo.c2;have hE:((e.1:Int)==0)=false:=avP;by_cases qB:qC.length<ln
   .go_wp2;go_end0;exact ayW
   .go_wp2;go_end0;exact ayW
end
def xm:aj:=[68,79,78,69]
structure vZ where
 k:Nat
 n:Nat
 i:Nat
 c:Nat
 names:List (aj)
 sizes:aC
 qC:aj
def Bc(l:aj):Option (Nat×Nat):=
 match ug (uS l 0 vJ) (sS l 0 24)with
 |some x=>some x
 |none=>Md none (le l 6 1) (le l 7 1) (le l 8 1) (le l 9 1) (le l 10 4) (le l 14 4) (le l 18 4) (le l 22 2)
def qN(l:aj):Except (Nat×Nat) vZ:=
 match Bc l with
 |some e=>.error e
 |none=>
  match vX l (le l 14 4)with
  | .error e=>.error e
  | .ok (ns,zs)=>
    if le l 18 4=uu (le l 6 1) zs then
     match tu l (decide (le l 8 1<le l 6 1)) (le l 10 4) (le l 18 4) ((rZ zs:Int)-((le l 8 1*uu (le l 6 1) zs:Nat):Int)) (le l 18 4) (32+le l 14 4+8) []with
     | .error e=>.error e
     | .ok (qC,a)=>
       match ug (uS l a xm) (qJ (decide (l.length<=a+4)) 9 (a+4))with
       |some e=>.error e
       |none=>.ok ⟨le l 6 1,le l 7 1,le l 8 1,le l 10 4,ns,zs,qC⟩
    else .error (7,18)
theorem GZ{k n i z c m ln zz:Nat}(h:Md none k n i z c m ln zz=none):1<=k/\k<=128/\k<=n/\n<=128/\i<n/\z=0/\1<=c/\c<=65536/\4<=m/\m<=300000/\ln<=65536/\zz=0:=by
 have key:∀{r:Option (Nat×Nat)}{ok:Bool}{x y:Nat},ug r (qJ ok x y)=none->r=none/\ok=true:=by
  intro r ok x y h;cases r with
  |some _=>cases h
  |none=>cases ok with
   |true=>exact⟨rfl,rfl⟩
   |false=>cases h
 unfold Md at h;obtain⟨h,h8⟩:=key h;obtain⟨h,h7⟩:=key h;obtain⟨h,h6⟩:=key h;obtain⟨h,h5⟩:=key h;obtain⟨h,h4⟩:=key h;obtain⟨h,h3⟩:=key h;obtain⟨h,h2⟩:=key h;obtain⟨_,h1⟩:=key h;simp only[iG]at*;omega
theorem age(sb xb bb bo cap:Nat)(BR:bb≠sb)(hbx:bb≠xb)(CQ:xb≠sb)(l:aj)(hl:l.length<2^60)(uF:l.length<=cap)(m:Nat)(hm4:4<=m)(hm:m<=300000)(k n i ch N7:Nat)
  (w:ah) (h:yX w sb (.slice (some ⟨bb,bo,none⟩) l.length cap) N7 none) (hx:Wp w xb k n i ch (.slice none 0 0) (.slice none 0 0) (.slice none 0 0)) (hb:xM w bb bo l) (Ah:bb<w.heap.size):
  Calls prog 30 #[.pointer (some ⟨sb,0,none⟩),.pointer (some ⟨xb,0,none⟩),.int .i64 (m:Int)] w λq w'=>q=.returned (.tuple #[])/\Gy w sb xb bb bo cap l m k n i ch w':=by
 cases hs:sS l 32 m with
 |some e=>
  refine(Yn sb xb bb bo cap BR l hl uF m hm4 hm N7 w h hb Ah e (by rw[hs];rfl)).mono ?_;rintro q w' ⟨h1,h2,h3⟩;refine⟨h1,h2,?_⟩;have:vX l m=.error e:=by unfold vX;rw[hs]
  rw[this];exact h3
 |none=>
  by_cases hN:1000<le l 32 4
  .refine(Yn sb xb bb bo cap BR l hl uF m hm4 hm N7 w h hb Ah (7,32) (by rw[hs,ax rfl,show decide (le l 32 4<=1000)=false from by simp;omega];rfl)).mono ?_;rintro q w' ⟨h1,h2,h3⟩;refine⟨h1,h2,?_⟩;have:vX l m=.error (7,32):=by unfold vX;rw[hs];simp only;rw[ax hN]
   rw[this];exact h3
  .exact aeh sb xb bb bo cap BR hbx CQ l hl uF m hm4 hm k n i ch N7 w h hx hb Ah hs hN
def Bq:ai:=.agg (sG 0 0 0 0 (.slice none 0 0) (.slice none 0 0) (.slice none 0 0)).toArray
def xO(l:aj)(w:ah)(q:Ending)(w':ah):Prop:=
 Below w.heap.size w w'/\
 match qN l with
 | .error e=>q=.returned (.tuple #[Bq,.int .i64 (e.1:Int),.int .i64 (e.2:Int)])
 | .ok s=>∃vN vS vC,q=.returned (.tuple #[.agg (sG s.k s.n s.i s.c vN vS vC).toArray,.int .i64 0,.int .i64 0])/\
   w'.ownsRow w.heap.size 9 1 vN s.names.length (zC s.names)/\w'.ownsRow w.heap.size 3 1 vS s.sizes.length (uH s.sizes)/\w'.ownsRow w.heap.size 5 1 vC s.qC.length (rP s.qC)
theorem w_{P:aP}{fn:Func}{p u t:Tmp}{ty:aG}(h:fn.results=#[.cell p ty,.tmp u,.tmp t])(tmps:aH)(w:ah)(g:Nat)(et:aG)(cs:aH)(fr:Nat×Nat)(d:TypeDesc)
  (hp:tmps.getD p undef=.pointer (some ⟨g,0,none⟩)) (hg:w.heap[g]?=some (.cells cs et fr))
  (hu:P.underlying ty=some d) (hd:(match d with| .struct _| .array _ _=>true|_=>false)=true) (hi:(P.info? ty).map (·.size)=some cs.size):
  (results fn tmps).run P w=.ok (.tuple #[.agg cs,tmps.getD u undef,tmps.getD t undef]) w:=by
 have hp':tmps[p]?.getD undef=.pointer (some ⟨g,0,none⟩):=by simpa using hp
 exact axZ
