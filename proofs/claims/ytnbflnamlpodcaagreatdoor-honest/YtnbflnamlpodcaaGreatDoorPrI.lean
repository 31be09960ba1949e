import Derived.Test.YtnbflnamlpodcaaGreatDoorPrE
set_option maxHeartbeats 4000000
set_option maxRecDepth 100000
namespace Go.Proofs.Y
open Go.Proofs.Tryz
open Go.RowKit Go.Deep
def uz(B:Nat)(w:ah)(rb:Nat)(s:St)(t:ak)(vN vS vC vT:ai)(R:Except (Nat×Nat) St)(D:Nat)(q:Ending)(w':ah):Prop:=
 rQ w.heap.size (qZ rb vC vT) w w'/\match R with
 | .error e=>(∃v d,d<=D/\q=.returned v/\sV w' d v e.1 e.2)/\(∃r',yw w' rb r')/\(e.1=4->RI B w' rb s t vN vS vC vT)
 | .ok s'=>q=.returned .nilIface/\∃VB VC Gx,RI B w' rb s' t VB VC Gx vT/\(Gx.ownBlock=vC.ownBlock\/∃g,Gx.ownBlock=some g/\w.heap.size<=g)
theorem RI.below{B rb:Nat}{w w':ah}{s:St}{t:ak}{vN vS vC vT:ai}(I:RI B w rb s t vN vS vC vT)(hb:Below w.heap.size w w'):RI B w' rb s t vN vS vC vT:=by
 have key:∀{e n:Nat}{v:ai}{xs:aK},w.ownsRow B e 1 v n xs->w'.ownsRow B e 1 v n xs:=λh=>vU h (λg uO=>hb.block g (h.lt g uO).2)
 exact⟨ql.later I.rd (S:=λ_=>False) (.qF hb) (ql.lt I.rd) id,key I.on,key I.os,key I.oc,key I.ot,I.ap,bu I.size hb.size⟩
theorem uz.fault{B:Nat}{w w':ah}{rb:Nat}{s:St}{t:ak}{vN vS vC vT v:ai}{e:Nat×Nat}{d D:Nat}(I:RI B w rb s t vN vS vC vT)(hd:d<=D)(h:sV w' d v e.1 e.2)(hb:Below w.heap.size w w'):uz B w rb s t vN vS vC vT (.error e) D (.returned v) w':=
 ⟨.qF hb,⟨v,d,hd,rfl,h⟩,⟨_,(I.below hb).rd⟩,λ_=>I.below hb⟩
theorem yV{w w':ah}{j:Nat}(h:Below (w.drewN j).heap.size (w.drewN j) w'):Below w.heap.size w w':=⟨h.os,h.tape,h.output,h.size,h.block⟩
theorem RI.turn{B rb:Nat}{w w':ah}{s s':St}{t:ak}{vN vS vC vT:ai}(I:RI B w rb s t vN vS vC vT)(hB:rQ w.heap.size (· =rb) w w')(hR:yw w' rb (s'.rd vN vS vC vT .nilIface))(h1:s'.ns=s.ns)(h2:s'.zs=s.zs)(h3:s'.qH=s.qH):RI B w' rb s' t vN vS vC vT:=by
 have key:∀{e n:Nat}{v:ai}{xs:aK},w.ownsRow B e 1 v n xs->e≠122->w'.ownsRow B e 1 v n xs:=λh he=>vU h (λg uO=>hB.block g (h.lt g uO).2 (λe=>uM h I.rd he (by rw[uO,e])))
 exact⟨hR,by rw[h1];exact key I.on aC,by rw[h2];exact key I.os aC,by rw[h3];exact key I.oc aC,key I.ot aC,I.ap,bu I.size hB.size⟩
theorem aey{t:ak}:zQ (part t 0 24)=zQ t:=by
 have h:∀a n,a+n<=24->le (part t 0 24) a n=le t a n:=λa n hn=>axK
 unfold zQ;rw[h 6 1 ag,h 7 1 ag,h 8 1 ag,h 9 1 ag,h 10 4 ag,h 14 4 ag,h 18 4 ag,h 22 2 ag]
section
variable (B rb:Nat)(s:St)(t:ak)(vN vS vC vT:ai)(hb:Bd s)(ht:t.length<=s.sz)(w:ah)(I:RI B w rb s t vN vS vC vT)(uY:Du w)
include hb ht I in
theorem aay(Ox:s.nx=3):Calls prog 133 #[.pointer (some ⟨rb,0,none⟩)] w λq w'=>uz B w rb s t vN vS vC vT (Kt s t) 0 q w':=by
 obtain⟨bc,cc,eC,hcc⟩:=I.oc.slice;obtain⟨bt,ct,eT,BD⟩:=I.ot.slice;have hz:=St.YT hb
 have KB:Calls prog 134 #[.pointer (some ⟨rb,0,none⟩),.string ⟨#[68,79,78,69]⟩] w λq w'=>IB w t vH s.pl q w':=
  VY rb (s.rd vN vS vC vT .nilIface) t vH aC ag m_ w I.rd I.ot.lies
 have KY:=λj=>YW rb (s.rd vN vS vC vT .nilIface) bc s.qH.length cc eC ng nz ni hb.qH ou bt t.length ct eT (w.drewN j) I.rd
 have KN:=λj=>acE rb (s.rd vN vS vC vT .nilIface) bc s.qH.length cc eC ng nz ni hb.qH ou bt t.length ct eT ag m_ (w.drewN j) I.rd
 have hsz:yT s.nx s.c s.m s.ln s.qH.length=s.sz:=rfl;simp only[St.rd,hsz]at KY KN;unfold Kt;cases hbe:Dj t vH with
 |some i=>
  have HB:Hid (Dj t vH=some i):=hbe;clear KY KN hbe;unfold IB at KB;rw[HB.out]at KB;simp only at KB;go_enter func133,ntmps133
  go_wp2_with(first|(go_at_call 134;refine KB.mono ?_;rintro q w2 ⟨v,rfl,g1,g2⟩;obtain⟨ty,x,rfl⟩:=g1.iface))
  go_ret;exact uz.fault I (az _) g1 g2
 |none=>
  unfold IB at KB;rw[hbe]at KB;simp only at KB⊢;by_cases q:t.length<s.sz
  .rw[ay q];have K:=λj=>KN j q
   clear KY KN hbe;go_enter func133,ntmps133
   go_wp2_with(first|(go_at_call 134;refine KB.mono ?_;rintro q w2 ⟨rfl,j,yf⟩;obtain rfl:=yf.symm)|(go_at_call 140;refine(K _).mono ?_;rintro q w2 ⟨v,rfl,g1,g2⟩))
   go_ret;exact uz.fault I (az _) g1 (yV g2)
  .rw[au q];have K:=λj=>KY j ag
   clear KY KN hbe;go_enter func133,ntmps133
   go_wp2_with(first|(go_at_call 134;refine KB.mono ?_;rintro q w2 ⟨rfl,j,yf⟩;obtain rfl:=yf.symm)|(go_at_call 140;refine(K _).mono ?_;rintro q w2 ⟨rfl,j2,yf⟩;obtain rfl:=yf.symm))
   go_ret;refine⟨((rQ.refl _ _ _).drewN _),rfl,vN,vS,vC,I.drewN _,.inl rfl⟩
include hb ht I uY in
theorem aax(Ox:s.nx=0):Calls prog 130 #[.pointer (some ⟨rb,0,none⟩)] w λq w'=>uz B w rb s t vN vS vC vT (Kr s t) 0 q w':=by
 obtain⟨bc,cc,eC,hcc⟩:=I.oc.slice;obtain⟨bt,ct,eT,BD⟩:=I.ot.slice;have hz:=St.YT hb;have yz:=sz0 Ox
 have KB:Calls prog 134 #[.pointer (some ⟨rb,0,none⟩),.string ⟨#[67,65,73,82,78,49]⟩] w λq w'=>IB w t BU s.pl q w':=
  VY rb (s.rd vN vS vC vT .nilIface) t BU aC ag m_ w I.rd I.ot.lies
 have KS:=λj=>Kv rb (s.rd vN vS vC vT .nilIface) bc s.qH.length cc eC ng nz ni hb.qH ou t bt ct eT ag m_ (w.drewN j) I.rd I.ot.lies (uY.heap rfl)
 have hsz:yT s.nx s.c s.m s.ln s.qH.length=s.sz:=rfl;simp only[St.rd,hsz]at KS;have hSP:Nh s.sz s.pl t=zg s t:=rfl;simp only[hSP]at KS;unfold Kr;cases hbe:Dj t BU with
 |some i=>
  have HB:Hid (Dj t BU=some i):=hbe;clear KS hbe;unfold IB at KB;rw[HB.out]at KB;simp only at KB;go_enter func130,ntmps130
  go_wp2_with(first|(go_at_call 134;refine KB.mono ?_;rintro q w2 ⟨v,rfl,g1,g2⟩;obtain⟨ty,x,rfl⟩:=g1.iface))
  go_ret;exact uz.fault I (az _) g1 g2
 |none=>
  unfold IB at KB;rw[hbe]at KB;simp only at KB⊢;cases WI:zg s t with
  |some e=>
   unfold zT at KS;rw[WI]at KS;simp only at KS⊢;clear hbe WI;go_enter func130,ntmps130
   go_wp2_with(first|(go_at_call 134;refine KB.mono ?_;rintro q w2 ⟨rfl,j,yf⟩;obtain rfl:=yf.symm)|(go_at_call 135;refine(KS _).mono ?_;rintro q w2 ⟨v,rfl,g1,g2⟩;obtain⟨ty,x,rfl⟩:=g1.iface))
   go_ret;exact uz.fault I (az _) g1 (yV g2)
  |none=>
   unfold zT at KS;rw[WI]at KS;simp only at KS⊢
   have atO:t.length=32:=by
    unfold zg at WI;split at WI
    .cases WI
    .omega
   have hby:∃b off,bt=some ⟨b,off,none⟩/\Dv w b off t/\b≠rb:=by exact azK
   obtain⟨b,off,rfl,hB,hbr⟩:=hby
   have hu:(part t 0 24).length=24:=qN ag;have KR:=λj=>Ub rb (s.rd vN vS vC vT .nilIface) (part t 0 24) b off ct hu ag hbr (w.drewN j) I.rd (by have:=hB.part (a:=0) (n:=24) ag;exact this)
   unfold acD at KR;rw[aey]at KR;have hle:∀a n,a+n<=24->le (part t 0 24) a n=le t a n:=λa n hn=>axK
   have hrd:(s.rd vN vS vC vT .nilIface).nums (part t 0 24)=({s with k:=le t 6 1,n:=le t 7 1,i:=le t 8 1,c:=le t 10 4,m:=le t 14 4,ln:=le t 18 4}:St).rd vN vS vC vT .nilIface:=by unfold Rd.nums St.rd;simp only;rw[hle 6 1 ag,hle 7 1 ag,hle 8 1 ag,hle 10 4 ag,hle 14 4 ag,hle 18 4 ag]
   rw[hrd]at KR;rw[atO]at KS;simp only[show 32-8=24 from rfl]at KS;have hBM:∀{j:Nat}{w':ah},rQ (w.drewN j).heap.size (· =rb) (w.drewN j) w'->rQ w.heap.size (· =rb) w w':=λh=>((rQ.refl w.heap.size _ w).drewN _).trans h
   clear hbe WI hle hrd;cases hnu:vZ (zQ t)with
   |some p=>
    rw[hnu]at KR;simp only at KR⊢;clear hnu;go_enter func130,ntmps130
    go_wp2_with(first|(go_at_call 134;refine KB.mono ?_;rintro q w2 ⟨rfl,j,yf⟩;obtain rfl:=yf.symm)|(go_at_call 135;refine(KS _).mono ?_;rintro q w2 ⟨rfl,j2,yf⟩;obtain rfl:=yf.symm)|(go_at_call 136;refine(KR _).mono ?_;rintro q w3 ⟨g1,g2,v,rfl,g3⟩))
    go_ret;exact⟨(hBM g1).mono (az _) (λ_ x=>.inl x),⟨v,0,az _,rfl,g3⟩,⟨_,g2⟩,λh=>f_⟩
   |none=>
    rw[hnu]at KR;simp only at KR⊢;clear hnu;go_enter func130,ntmps130
    go_wp2_with(first|(go_at_call 134;refine KB.mono ?_;rintro q w2 ⟨rfl,j,yf⟩;obtain rfl:=yf.symm)|(go_at_call 135;refine(KS _).mono ?_;rintro q w2 ⟨rfl,j2,yf⟩;obtain rfl:=yf.symm)|(go_at_call 136;refine(KR _).mono ?_;rintro q w3 ⟨g1,g2,rfl⟩))
    go_ret;exact⟨(hBM g1).mono (az _) (λ_ x=>.inl x),rfl,vN,vS,vC,I.turn (hBM g1) g2 rfl rfl rfl,.inl rfl⟩
end
theorem aez(u:ak)(F:Int):Va u F=match TZ u F with|some m=>(m:Int)|none=> -1:=rfl
theorem acF(k i t:Nat)(hk:1<=k)(ht:t<=65536):0<=BF k i t/\BF k i t<=65536:=by have h1:=D5 hk t;unfold BF;split<;>omega
theorem RI.column{B rb:Nat}{w w1:ah}{s:St}{t x:ak}{vN vS vC vT v1:ai}(I:RI B w rb s t vN vS vC vT)(h1:rO B w1 v1 (s.qH++x))(hg:w.grownBy w1 vC.ownBlock)(hk:v1.ownBlock=vC.ownBlock\/v1.ownBlock=some w.heap.size):
  RI B (w1.setCell ⟨rb,6,none⟩ v1) rb {s with qH:=s.qH++x} t vN vS v1 vT/\rQ w.heap.size (qZ rb vC vT) w (w1.setCell ⟨rb,6,none⟩ v1)/\w1.cell? ⟨rb,6,none⟩=some vC/\w1.frozen? ⟨rb,6,none⟩=false:=by
 have ap9:=ql.lt I.rd;have hT:=uM I.oc I.rd aC
 have Tt:yw w1 rb (s.rd vN vS vC vT .nilIface):=by exact azI
 have key:∀{e n:Nat}{v:ai}{xs:aK},w.ownsRow B e 1 v n xs->QW v vC->w1.ownsRow B e 1 v n xs:=λh ha=>vU h (λg uO=>hg.block g (h.lt g uO).2 (λe=>ha g uO e.symm))
 have hN1:=key I.on (IA I.on I.oc aC);have Qp:=key I.os (IA I.os I.oc aC);have hT1:=key I.ot (λg h1 h2=>I.ap g h2 h1);have Fz:yw (w1.setCell ⟨rb,6,none⟩ v1) rb (({s with qH:=s.qH++x}:St).rd vN vS v1 vT .nilIface):=ql.set Tt 6 v1;refine⟨⟨Fz,uZ hN1 (uM hN1 Tt aC),uZ Qp (uM Qp Tt aC),uZ h1 (uM h1 Tt aC),uZ hT1 (uM hT1 Tt aC),?_,?_⟩,?_,ql.cell Tt (i:=6) rfl,ql.frozen Tt 6⟩
 .intro g Tf Ue;rcases hk with e|e
  .exact I.ap g (e▸Tf) Ue
  .have h2:=(gJ I.ot g Ue).2;rw[e]at Tf;cases Tf;omega
 .have:=I.size;have:=hg.size;simp;omega
 .exact rQ.setCell (rQ.mono (rQ.acB hg) (az _) (λk hk=>.inr (.inl hk))) (p:=⟨rb,6,none⟩) (.inr (.inl rfl)) v1
section
variable (B rb:Nat)(s:St)(t:ak)(vN vS vC vT:ai)(hb:Bd s)(ht:t.length<=s.sz)(w:ah)(I:RI B w rb s t vN vS vC vT)(uY:Du w)
include hb ht I uY in
theorem XK(Ox:s.nx=2)(KP:1<=s.k)(P7:s.k<=128)(hi:s.i<=128)(htt:s.tt<=65536):Calls prog 132 #[.pointer (some ⟨rb,0,none⟩)] w λq w'=>uz B w rb s t vN vS vC vT (Fb s t) 0 q w':=by
 obtain⟨bc,cc,eC,hcc⟩:=I.oc.slice;obtain⟨bt,ct,eT,BD⟩:=I.ot.slice;have hz:=St.YT hb;have KS:=Kv rb (s.rd vN vS vC vT .nilIface) bc s.qH.length cc eC ng nz ni hb.qH ou t bt ct eT ag m_ w I.rd I.ot.lies uY;have hsz:yT s.nx s.c s.m s.ln s.qH.length=s.sz:=rfl;simp only[St.rd,hsz]at KS;have hSP:Nh s.sz s.pl t=zg s t:=rfl;simp only[hSP]at KS;unfold Fb;cases WI:zg s t with
 |some e=>
  unfold zT at KS;rw[WI]at KS;simp only at KS⊢;clear WI;go_enter func132,ntmps132
  go_wp2_with(first|(go_at_call 135;refine KS.mono ?_;rintro q w2 ⟨v,rfl,g1,g2⟩;obtain⟨ty,x,rfl⟩:=g1.iface))
  go_ret;exact uz.fault I (az _) g1 g2
 |none=>
  unfold zT at KS;rw[WI]at KS;simp only at KS⊢;have wH:=sz2 Ox
  have hl8:t.length=s.sz:=by
   unfold zg at WI;split at WI
   .cases WI
   .omega
  obtain⟨b,off,ebt,hB⟩:∃b off,bt=some ⟨b,off,none⟩/\Dv w b off t:=by have hot:=I.ot;unfold rO at hot;obtain⟨g,c,e,_,_,_,_,hB⟩:=A7 hot ag;rw[eT]at e;cases e;exact⟨g,0,rfl,hB⟩
  subst ebt;obtain⟨q,eq⟩:∃q,t.length-8=q:=⟨_,rfl⟩;have hq:q+8=t.length:=ag;have hq2:s.qH.length+q<=s.ln:=by have:=hb.qH;omega
  have hu:(part t 0 q).length=q:=qN ag;have hBu:Dv w b off (part t 0 q):=by have:=hB.part (a:=0) (n:=q) ag;exact this
  have hLu:qU w (.slice (some ⟨b,off,none⟩) q ct) (sJ (part t 0 q)):=by refine⟨_,ct,by rw[sZ,hu],by rw[sZ,hu];omega,λj u hj=>⟨b,off,rfl,?_⟩⟩;obtain⟨h1,rfl⟩:=VV hj;exact hBu j h1
  rw[eq]at KS⊢;have Me:=hb.ln;have vY:=hb.pl;have hF:=acF s.k s.i s.tt KP htt;have KU:=λj=>ai9 (s.k:Int) (s.i:Int) (s.tt:Int) s.k s.i s.tt rfl rfl rfl KP ag ag htt (w.drewN j)
  have KF:=λj=>adD (BF s.k s.i s.tt-(s.qH.length:Int)) ag _ (part t 0 q) ag (w.drewN j) (hLu.drewN j)
  rw[aez]at KF;have c0:=ql.cell I.rd (i:=0) rfl;have c2:=ql.cell I.rd (i:=2) rfl;have c6:=ql.cell I.rd (i:=6) rfl;have c9:=ql.cell I.rd (i:=9) rfl;have Uz:=ql.cell I.rd (i:=11) rfl;have f6:=ql.frozen I.rd 6;simp only[St.rd]at c0 c2 c6 c9 Uz;subst eC;obtain⟨us,eus⟩:∃us,BF s.k s.i s.tt=us:=⟨_,rfl⟩;rw[eus]at KU KF hF⊢;have Zc:IntKind.i64.wrap (us-(s.qH.length:Int))=us-(s.qH.length:Int):=fM _ ag;clear WI hl8 eq hsz hSP eus;cases hp:TZ (part t 0 q) (us-(s.qH.length:Int))with
  |some m=>
   rw[hp]at KF;simp only at KF⊢;have hm:m<q:=by have:=(Nc.1 hp).1;omega
   obtain⟨pl,XJ⟩:∃pl,s.pl=pl:=⟨_,rfl⟩;rw[XJ]at Uz vY⊢;have ahY:IntKind.i64.wrap ((pl:Int)+(m:Int))=(pl:Int)+(m:Int):=fM _ ag;clear hp;go_enter func132,ntmps132
   go_wp2_with(first|(go_at_call 135;refine KS.mono ?_;rintro q w2 ⟨rfl,j,yf⟩;obtain rfl:=yf.symm))
   go_big_quiet (first|(go_at_call 138;exact(KU _).mono (λ_ _ h=>⟨h.1,_,h.2⟩)))
   go_wp2_with(first|(go_at_call 139;refine(KF _).mono ?_;rintro q w2 ⟨rfl,yf⟩;obtain rfl:=yf.symm)|(go_at_call 64;refine(A8 _ _ 8 (pl+m) aI ax _).mono ?_;rintro q w2 ⟨v,rfl,g1,g2⟩))
   go_ret;exact uz.fault I (az _) g1 (yV g2)
  |none=>
   rw[hp]at KF;simp only at KF⊢;clear hp;have hot:=I.oc;unfold rO at hot;have hBs:=I.size;have Md:=hb.qH;obtain⟨i0,Ak,yz,xA,hz3⟩:=dm BJ;have Wv:∀j u,(sJ (part t 0 q))[j]?=some u->w.cell? ((⟨b,off,none⟩:Addr).add j)=some u:=Dv.news hBu;go_enter func132,ntmps132
   go_wp2_with(first|(go_at_call 135;refine KS.mono ?_;rintro q w2 ⟨rfl,j,yf⟩;obtain rfl:=yf.symm))
   go_big_quiet (first|(go_at_call 138;exact(KU _).mono (λ_ _ h=>⟨h.1,_,h.2⟩)))
   go_wp2_with(first|(go_at_call 139;refine(KF _).mono ?_;rintro q w2 ⟨rfl,yf⟩;obtain rfl:=yf.symm)|(at_builtin;refine wpList_append_own_at _ rfl _ _ 34 rfl B 5 i0 (.int .u8 0) 1 1 underlying34 Ak yz xA hz3 rfl aC _ _ _ rfl avE ⟨b,off,none⟩ q ct (sJ (part t 0 q)) rfl (by rw[sZ,hu];omega) (by exact Wv) (FO _) dB ag (by exact hBs) ?_;intro v2 w2 zh xW _ BA;have ow:=aaB zh;obtain⟨b2,c3,rfl,hc3⟩:=ow.slice;obtain⟨J,hJ,x6,y6⟩:=RI.column (I.drewN _) ow xW BA))
   go_ret;have e2:(s.qH++part t 0 q).length=s.qH.length+q:=by rw[bK,hu]
   rw[e2]at J hJ BA;refine⟨((rQ.refl w.heap.size _ w).drewN _).trans hJ,rfl,vN,vS,_,J,?_⟩;rcases BA with e|e
   .exact .inl e
   .exact .inr ⟨_,e,az _⟩
end
def lsL(v:ai)(pl a:Nat)(vN vS:ai)(tt:Nat):aK:=[v,.int .i64 (pl:Int),.int .i64 (a:Int),vN,vS,.int .i64 (tt:Int)]
def Eh(w:ah)(lb:Nat)(v:ai)(pl a:Nat)(vN vS:ai)(tt:Nat):Prop:=ql w lb (lsL v pl a vN vS tt) 222
section
variable (lb:Nat)(v:ai)(pl a:Nat)(vN vS:ai)(tt:Nat)(vY:pl<=1000000000000)(ha:a<=1000000000)(w:ah)(h:Eh w lb v pl a vN vS tt)
include vY ha h in
theorem B_(X:Int)(x p:Nat)(hX:X=x)(hx:x<=1000000000)(hp:p=pl+a+x):
  Calls prog 143 #[.pointer (some ⟨lb,0,none⟩),.int .i64 X] w λq w'=>yx w 0 7 p q w':=by
 subst hX;have c1:=ql.cell h (i:=1) rfl;have c2:=ql.cell h (i:=2) rfl;have Zc:IntKind.i64.wrap ((pl:Int)+(a:Int))=(pl:Int)+(a:Int):=fM _ ag;have ahY:IntKind.i64.wrap ((pl:Int)+(a:Int)+(x:Int))=(pl:Int)+(a:Int)+(x:Int):=fM _ ag;have HP:Hid (p=pl+a+x):=hp;clear h hp;go_enter func143,ntmps143
 go_wp2_with fail
 refine Dk 11 mixed aj ?_;simp only[pg,lT,pI,l9]
 repeat (first|go_big_quiet_skip|(go_big_quiet_want;go_big_quiet_op;go_big_quiet_on))
 refine wpQuiet_nil ?_
 go_wp2_with(first|(go_at_call 64;refine(A8 _ _ 7 p aI (by rw[HP.out];simp) _).mono ?_;rintro q w2 ⟨v,rfl,g1,g2⟩))
 go_ret;exact yx.He (j:=1) ⟨_,rfl,g1,g2⟩
end
section
variable (lb:Nat)(b off ct:Nat)(u:ak)(pl a:Nat)(vN vS:ai)(tt:Nat)(hu:u.length<=1000000)(BD:u.length<ct)(ha:a<=u.length)(w:ah)(h:Eh w lb (.slice (some ⟨b,off,none⟩) u.length ct) pl a vN vS tt)(hB:Dv w b off u)
theorem IC(bb bo len cap:Nat)(L:Int)(a:Nat)(hL:L=a)(hc:a<=len)(ha:a<cap):∀w,(Instr.slice 34 (.slice (some ⟨bb,bo,none⟩) len cap) (some (.int .i64 L)) none none).run prog w=.ok (.slice (some ⟨bb,bo+a,none⟩) (len-a) (cap-a)) w:=by
 intro w;subst hL;have hu:prog.underlying 34=some (.slice (prog.elem 34)):=underlying34;rw[run_slice_l w 34 _ _ _ hu .i64 a ag ag]
 have hsz:(sizeOf (prog.elem 34)).run prog w=.ok 1 w:=by simp[sizeOf,go_sem];rfl
 exact azS
include BD ha h in
theorem Rj(hs:u.length<a+6):
  Calls prog 146 #[.pointer (some ⟨lb,0,none⟩)] w λq w'=>q=.returned (.tuple #[.int .i64 0,.bool false])/\∃j,w'=w.drewN j:=by
 have c0:=ql.cell h (i:=0) rfl;have c2:=ql.cell h (i:=2) rfl;have sl:=IC b off u.length ct (a:Int) a rfl ha ag;obtain⟨d,ed⟩:∃d,u.length-a=d:=⟨_,rfl⟩;have hd:d<6:=ag;rw[ed]at sl;clear h ed hs;go_enter func146,ntmps146
 go_wp2_with fail
 go_big_quiet (fail)
 go_wp2;go_ret2;exact⟨rfl,_,rfl⟩
include hu BD ha h hB in
theorem Bq(hs:a+6<=u.length):
  Calls prog 146 #[.pointer (some ⟨lb,0,none⟩)] w λq w'=>q=.returned (.tuple #[.int .i64 (le u a 2:Nat),.bool (decide (1<=le u a 2/\le u a 2<=255/\a+6+le u a 2<=u.length))])/\∃j,w'=w.drewN j:=by
 have c0:=ql.cell h (i:=0) rfl;have c2:=ql.cell h (i:=2) rfl;have sl:=IC b off u.length ct (a:Int) a rfl ha ag;have hP:(part u a 2).length=2:=qN ag;have K:=λn cap=>xy b (off+a) 2 cap (part u a 2) hP ag (w.drewN n) (hB.part ag)
 have hle:le (part u a 2) 0 2=le u a 2:=by simp only[le];rw[vI ag,vI ag];rfl
 have qK:le u a 2<65536:=SY u 2 a;rw[hle]at K;obtain⟨y,ey⟩:∃y,le u a 2=y:=⟨_,rfl⟩;rw[ey]at K qK⊢;obtain⟨d,ed⟩:∃d,u.length-a=d:=⟨_,rfl⟩;have hd:6<=d:=ag;have hd2:d<=1000000:=ag;obtain⟨ce,ece⟩:∃ce,ct-a=ce:=⟨_,rfl⟩;have hce:6<=ce:=ag;rw[ed,ece]at sl
 have HQ:Hid (decide (1<=y/\y<=255/\a+6+y<=u.length)=decide (1<=y/\y<=255/\y+6<=d)):=by
  show decide _=decide _
  congr 1
  apply propext;omega
 rw[HQ.out];clear h ed ece hs hle hP hB ey HQ;by_cases q1:1<=y
 .by_cases q2:y<=255
  .by_cases q3:y+6<=d
   all_goals
    first|(have HE:Hid (decide (1<=y/\y<=255/\y+6<=d)=true):=(show _=_ by simp;omega))|(have HE:Hid (decide (1<=y/\y<=255/\y+6<=d)=false):=(show _=_ by simp;omega))
    rw[HE.out];clear HE;go_enter func146,ntmps146
    go_wp2_with fail
    go_big_quiet (fail)
    go_wp2_with(first|(go_at_call 141;refine(K _ _).mono ?_;rintro q w' ⟨rfl,uf⟩;obtain rfl:=uf.symm))
    try go_big_quiet (fail)
    try go_wp2
    exact ayO
  .have HE:Hid (decide (1<=y/\y<=255/\y+6<=d)=false):=(show _=_ by simp;omega);rw[HE.out];clear HE;go_enter func146,ntmps146
   go_wp2_with fail
   go_big_quiet (fail)
   go_wp2_with(first|(go_at_call 141;refine(K _ _).mono ?_;rintro q w' ⟨rfl,uf⟩;obtain rfl:=uf.symm))
   try go_big_quiet (fail)
   try go_wp2
   exact ayO
 .have HE:Hid (decide (1<=y/\y<=255/\y+6<=d)=false):=(show _=_ by simp;omega);rw[HE.out];clear HE;go_enter func146,ntmps146
  go_wp2_with fail
  go_big_quiet (fail)
  go_wp2_with(first|(go_at_call 141;refine(K _ _).mono ?_;rintro q w' ⟨rfl,uf⟩;obtain rfl:=uf.symm))
  try go_big_quiet (fail)
  try go_wp2
  exact ayO
end
structure LsI(B:Nat)(w:ah)(lb b off ct:Nat)(u:ak)(pl a:Nat)(vN vS:ai)(ns:List (ak))(zs:aA):Prop where
 ls:Eh w lb (.slice (some ⟨b,off,none⟩) u.length ct) pl a vN vS zs.sum
 on:w.ownsRow B 9 1 vN ns.length (DT ns)
 os:w.ownsRow B 3 1 vS zs.length (zV zs)
 ap:QW vN vS
 IU:Dv w b off u
 size:B<=w.heap.size
def Ha(B:Nat)(w:ah)(lb b off ct:Nat)(u:ak)(pl a:Nat)(ns:List (ak))(zs:aA)(q:Ending)(w':ah):Prop:=
 match x9 u a ns zs with
 | .error p=>yx w 0 7 (pl+p) q w'
 | .ok (nm,z)=>q=.returned .nilIface/\rQ B (· =lb) w w'/\∃vN vS,LsI B w' lb b off ct u pl (a+(6+nm.length)) vN vS (ns++[nm]) (zs++[z])
theorem Eh.drewN{w:ah}{lb:Nat}{v:ai}{pl a:Nat}{vN vS:ai}{tt:Nat}(h:Eh w lb v pl a vN vS tt)(j:Nat):Eh (w.drewN j) lb v pl a vN vS tt:=h
section
variable (B lb b off ct:Nat)(u:ak)(pl a:Nat)(vN vS:ai)(ns:List (ak))(zs:aA)(Nv:lb<B)(Tv:b<B)(Ns:lb≠b)(hu:u.length<=1000000)(BD:u.length<ct)(ha:a<=u.length)(vY:pl<=1000000000000)(hns:ns.length<1000)(hzl:zs.length=ns.length)(hzs:zs.sum<=65536)(w:ah)(I:LsI B w lb b off ct u pl a vN vS ns zs)
include hu BD ha vY I in
theorem aet(hs:u.length<a+6\/le u a 2<1\/255<le u a 2\/u.length<a+6+le u a 2):
  Calls prog 144 #[.pointer (some ⟨lb,0,none⟩)] w λq w'=>yx w 0 7 (pl+a) q w':=by
 obtain⟨y,K⟩:∃y:Nat,Calls prog 146 #[.pointer (some ⟨lb,0,none⟩)] w λq w'=>q=.returned (.tuple #[.int .i64 (y:Int),.bool false])/\∃j,w'=w.drewN j:=by
  by_cases q:u.length<a+6
  .exact⟨0,Rj lb b off ct u pl a vN vS zs.sum BD ha w I.ls q⟩
  .refine⟨le u a 2,(Bq lb b off ct u pl a vN vS zs.sum hu BD ha w I.ls I.IU ag).mono λr w' hh=>⟨?_,hh.2⟩⟩;rw[hh.1];have:decide (1<=le u a 2/\le u a 2<=255/\a+6+le u a 2<=u.length)=false:=aS;rw[this]
 have KW:=λj=>B_ lb _ pl a vN vS zs.sum vY ag (w.drewN j) (I.ls.drewN j) 0 0 (pl+a) rfl ag ag
 clear I hs;go_enter func144,ntmps144
 go_wp2_with(first|(go_at_call 146;refine K.mono ?_;rintro q w2 ⟨rfl,j,yf⟩;obtain rfl:=yf.symm)|(go_at_call 143;refine(KW _).mono ?_;rintro q w2 ⟨v,rfl,g1,g2⟩))
 exact ayw
include hu BD ha vY hns I in
theorem aeu(k:Nat)(hk:le u a 2=k)(hs:a+6+k<=u.length)(KP:1<=k)(P7:k<=255)(nm:ak)(Tm:part u (a+2) k=nm)(hq0:0<ns.length)(hq:vO nm (ns.getD (ns.length-1) [])=true):
  Calls prog 144 #[.pointer (some ⟨lb,0,none⟩)] w λq w'=>yx w 0 7 (pl+(a+2)) q w':=by
 have K:=Bq lb b off ct u pl a vN vS zs.sum hu BD ha w I.ls I.IU ag;rw[hk,show decide (1<=k/\k<=255/\a+6+k<=u.length)=true by simp;omega]at K;have sl:=Aj b off u.length ct (a:Int) ((a:Int)+(k:Int)+6) a (a+k+6) rfl ax ag ag ag;rw[show a+k+6-a=k+6 by omega]at sl;obtain⟨ce,ece⟩:∃ce,ct-a=ce:=⟨_,rfl⟩;have hce:k+6<ce:=ag;rw[ece]at sl;have sl2:=Aj b (off+a) (k+6) ce 2 (2+(k:Int)) 2 (2+k) rfl ax ag ag ag;rw[show 2+k-2=k by omega]at sl2;have hcv:=λw' (hw:Dv w' b off u)=>QX (hw.part (a:=a+2) (n:=k) ag) k (qN ag) (ce-2)
 rw[show off+(a+2)=off+a+2 by omega,Tm]at hcv;have c0:=ql.cell I.ls (i:=0) rfl;have c2:=ql.cell I.ls (i:=2) rfl;have c3:=ql.cell I.ls (i:=3) rfl;have c5:=ql.cell I.ls (i:=5) rfl;have tX:∀j,Dv (w.drewN j) b off u:=λj=>I.IU
 have Zc:IntKind.i64.wrap ((a:Int)+(k:Int))=(a:Int)+(k:Int):=fM _ ag;have ahY:IntKind.i64.wrap ((a:Int)+(k:Int)+6)=(a:Int)+(k:Int)+6:=fM _ ag;have KW:=λj (x:Nat) hx=>B_ lb _ pl a vN vS zs.sum vY ag (w.drewN j) (I.ls.drewN j) (x:Int) x (pl+a+x) rfl hx rfl
 obtain⟨Ze,ec⟩:∃Ze,ns.length=Ze+1:=⟨ns.length-1,ag⟩;have hon:=I.on;obtain⟨g,cn,ev⟩:=BV hon ag;rw[ev]at hon c3;have hla:=hon.cellAt Ze ag;rw[Z_ ag]at hla;rw[show ns.length-1=Ze by omega]at hq;obtain⟨la,el⟩:∃la,ns.getD Ze []=la:=⟨_,rfl⟩;rw[el]at hla hq;rw[ec]at c3 hns;unfold vO at hq;have K2:=λj=>KW j 2 ag
 clear KW hon ev el ec ece hk Tm I hs hq0;rcases hq1:Op.bytesLess nm la with _|_
 all_goals
  rw[hq1]at hq
  try simp only[kU]at hq
  go_enter func144,ntmps144
  go_wp2_with(first|(go_at_call 146;refine K.mono ?_;rintro q w2 ⟨rfl,j,yf⟩;obtain rfl:=yf.symm))
  go_big_quiet (fail)
  have ahZ:=hcv _ (tX (j+nq))
  go_wp2_with fail
  go_big_quiet (fail)
  go_wp2_with(first|(go_at_call 143;refine(K2 _).mono ?_;rintro q w2 ⟨v,rfl,g1,g2⟩))
  exact ayw
end
section
variable (B lb b off ct:Nat)(u:ak)(pl a:Nat)(vN vS:ai)(ns:List (ak))(zs:aA)(Nv:lb<B)(Tv:b<B)(Ns:lb≠b)(hu:u.length<=1000000)(BD:u.length<ct)(ha:a<=u.length)(vY:pl<=1000000000000)(hns:ns.length<1000)(hzl:zs.length=ns.length)(hzs:zs.sum<=65536)(w:ah)(I:LsI B w lb b off ct u pl a vN vS ns zs)
include hu BD ha vY hns hzs I in
theorem aev(k:Nat)(hk:le u a 2=k)(hs:a+6+k<=u.length)(KP:1<=k)(P7:k<=255)(nm:ak)(Tm:part u (a+2) k=nm)(z:Nat)(hz:le u (a+2+k) 4=z)(anM:65536<zs.sum+z)(hq:0<ns.length->vO nm (ns.getD (ns.length-1) [])=false):
  Calls prog 144 #[.pointer (some ⟨lb,0,none⟩)] w λq w'=>yx w 0 7 (pl+(a+(2+k))) q w':=by
 have K:=Bq lb b off ct u pl a vN vS zs.sum hu BD ha w I.ls I.IU ag;rw[hk,show decide (1<=k/\k<=255/\a+6+k<=u.length)=true by simp;omega]at K;have sl:=Aj b off u.length ct (a:Int) ((a:Int)+(k:Int)+6) a (a+k+6) rfl ax ag ag ag;rw[show a+k+6-a=k+6 by omega]at sl;obtain⟨ce,ece⟩:∃ce,ct-a=ce:=⟨_,rfl⟩;have hce:k+6<ce:=ag;rw[ece]at sl;have sl2:=Aj b (off+a) (k+6) ce 2 (2+(k:Int)) 2 (2+k) rfl ax ag ag ag;rw[show 2+k-2=k by omega]at sl2;have hcv:=λw' (hw:Dv w' b off u)=>QX (hw.part (a:=a+2) (n:=k) ag) k (qN ag) (ce-2)
 rw[show off+(a+2)=off+a+2 by omega,Tm]at hcv;have c0:=ql.cell I.ls (i:=0) rfl;have c2:=ql.cell I.ls (i:=2) rfl;have c3:=ql.cell I.ls (i:=3) rfl;have c5:=ql.cell I.ls (i:=5) rfl;have tX:∀j,Dv (w.drewN j) b off u:=λj=>I.IU
 have Zc:IntKind.i64.wrap ((a:Int)+(k:Int))=(a:Int)+(k:Int):=fM _ ag;have ahY:IntKind.i64.wrap ((a:Int)+(k:Int)+6)=(a:Int)+(k:Int)+6:=fM _ ag;have KW:=λj (x:Nat) hx=>B_ lb _ pl a vN vS zs.sum vY ag (w.drewN j) (I.ls.drewN j) (x:Int) x (pl+a+x) rfl hx rfl
 have e4:(part u (a+2+k) 4).length=4:=qN ag
 have LZ:le (part u (a+2+k) 4) 0 4=le u (a+2+k) 4:=by exact azF
 have sl3:=IC b (off+a) (k+6) ce (2+(k:Int)) (2+k) ax ag ag;rw[show k+6-(2+k)=4 by omega]at sl3;have K4:=λn cap=>xy b (off+(a+2+k)) 4 cap (part u (a+2+k) 4) e4 ag (w.drewN n) (I.IU.part ag)
 rw[LZ,hz,show off+(a+2+k)=off+a+(2+k)by omega]at K4;have auu:z<2^32:=ax9;obtain⟨S,eS⟩:∃S,zs.sum=S:=⟨_,rfl⟩;have K2:=λj=>B_ lb _ pl a vN vS zs.sum vY ag (w.drewN j) (I.ls.drewN j) (2+(k:Int)) (2+k) (pl+(a+(2+k))) ax ag ag
 rw[eS]at c5 anM hzs;by_cases q0:ns.length=0
 .have c3':w.cell? ⟨lb,3,none⟩=some (.slice none 0 0)\/∃g cn,w.cell? ⟨lb,3,none⟩=some (.slice (some ⟨g,0,none⟩) 0 cn):=by
   rcases I.on.2 with⟨e,_⟩|⟨g,cn,cur,e,_⟩
   .left;rw[c3,e]
   .right;exact⟨g,cn,by rw[c3,e,q0]⟩
  clear KW c3 ece hk Tm I hs hq eS LZ e4 hz;rcases c3' with c3|⟨g,cn,c3⟩
  all_goals
   go_enter func144,ntmps144
   go_wp2_with(first|(go_at_call 146;refine K.mono ?_;rintro q w2 ⟨rfl,j,yf⟩;obtain rfl:=yf.symm))
   go_big_quiet (fail)
   have ahZ:=hcv _ (tX (j+nq))
   go_wp2_with fail
   go_big_quiet (fail)
   go_wp2_with(first|(go_at_call 141;refine(K4 _ _).mono ?_;rintro q w' ⟨rfl,uf⟩;obtain rfl:=uf.symm)|(go_at_call 143;refine(K2 _).mono ?_;rintro q w2 ⟨v,rfl,g1,g2⟩))
   exact ayw
 .replace hq:=hq ag;obtain⟨Ze,ec⟩:∃Ze,ns.length=Ze+1:=⟨ns.length-1,ag⟩;have hon:=I.on;obtain⟨g,cn,ev⟩:=BV hon ag;rw[ev]at hon c3;have hla:=hon.cellAt Ze ag;rw[Z_ ag]at hla;rw[show ns.length-1=Ze by omega]at hq;obtain⟨la,el⟩:∃la,ns.getD Ze []=la:=⟨_,rfl⟩;rw[el]at hla hq;rw[ec]at c3 hns;unfold vO at hq;obtain⟨hq1,hq2⟩:=axa.1 hq;clear KW hon ev el ec ece hk Tm I hs hq eS LZ e4 hz;go_enter func144,ntmps144
  go_wp2_with(first|(go_at_call 146;refine K.mono ?_;rintro q w2 ⟨rfl,j,yf⟩;obtain rfl:=yf.symm))
  go_big_quiet (fail)
  have ahZ:=hcv _ (tX (j+nq))
  go_wp2_with fail
  go_big_quiet (fail)
  go_wp2_with(first|(go_at_call 141;refine(K4 _ _).mono ?_;rintro q w' ⟨rfl,uf⟩;obtain rfl:=uf.symm)|(go_at_call 143;refine(K2 _).mono ?_;rintro q w2 ⟨v,rfl,g1,g2⟩))
  exact ayw
end
theorem LQ(w:ah)(j n:Nat):(w.drewN j).drewN n=w.drewN (j+n):=by simp[World.drewN,dW]
theorem LsI.drewN{B:Nat}{w:ah}{lb b off ct:Nat}{u:ak}{pl a:Nat}{vN vS:ai}{ns:List (ak)}{zs:aA}(I:LsI B w lb b off ct u pl a vN vS ns zs)(j:Nat):LsI B (w.drewN j) lb b off ct u pl a vN vS ns zs:=
 ⟨I.ls,I.on,I.os,I.ap,I.IU,I.size⟩
theorem Eh.atP{w:ah}{lb:Nat}{v:ai}{pl a:Nat}{vN vS:ai}{tt:Nat}(h:Eh w lb v pl a vN vS tt)(x:ai):Eh (w.setCell ⟨lb,3,none⟩ x) lb v pl a x vS tt:=ql.set h 3 x
theorem Eh.atQ{w:ah}{lb:Nat}{v:ai}{pl a:Nat}{vN vS:ai}{tt:Nat}(h:Eh w lb v pl a vN vS tt)(x:ai):Eh (w.setCell ⟨lb,4,none⟩ x) lb v pl a vN x tt:=ql.set h 4 x
theorem Eh.ahx{w:ah}{lb:Nat}{v:ai}{pl a:Nat}{vN vS:ai}{tt:Nat}(h:Eh w lb v pl a vN vS tt)(x:Nat):Eh (w.setCell ⟨lb,5,none⟩ (.int .i64 (x:Int))) lb v pl a vN vS x:=ql.set h 5 _
theorem Eh.akF{w:ah}{lb:Nat}{v:ai}{pl a:Nat}{vN vS:ai}{tt:Nat}(h:Eh w lb v pl a vN vS tt)(x:Nat):Eh (w.setCell ⟨lb,2,none⟩ (.int .i64 (x:Int))) lb v pl x vN vS tt:=ql.set h 2 _
structure LsJ(B:Nat)(w0 w:ah)(lb b off ct:Nat)(u:ak)(pl a:Nat)(vN vS:ai)(ns:List (ak))(zs:aA)(tt:Nat):Prop where
 ls:Eh w lb (.slice (some ⟨b,off,none⟩) u.length ct) pl a vN vS tt
 on:w.ownsRow B 9 1 vN ns.length (DT ns)
 os:w.ownsRow B 3 1 vS zs.length (zV zs)
 ap:QW vN vS
 IU:Dv w b off u
 size:B<=w.heap.size
 but:rQ B (· =lb) w0 w
section
variable {B:Nat}{w0 w w1:ah}{lb b off ct:Nat}{u:ak}{pl a:Nat}{vN vS v1:ai}{ns:List (ak)}{zs:aA}{tt:Nat}{o:Obj}
theorem LsJ.asH{nm:ak}(I:LsJ B w0 w lb b off ct u pl a vN vS ns zs tt)(Nv:lb<B)(Tv:b<B)(Ns:lb≠b)(h1:w1.ownsRow B 9 1 v1 (ns.length+1) (DT ns++[.string ⟨nm.toArray⟩]))(hg:(w.alloc o).grownBy w1 vN.ownBlock)(hk:v1.ownBlock=vN.ownBlock\/v1.ownBlock=some (w.alloc o).heap.size):
  LsJ B w0 (w1.setCell ⟨lb,3,none⟩ v1) lb b off ct u pl a v1 vS (ns++[nm]) zs tt/\w1.cell? ⟨lb,3,none⟩=some vN/\w1.frozen? ⟨lb,3,none⟩=false:=by
 have uu:rQ B (λ_=>False) w w1:=((rQ.refl _ _ _).alloc I.size o).grown hg (by simp;have:=I.size;omega) (λg hg=>(I.on.lt g hg).1);have tX:rQ B (· =lb) w (w1.setCell ⟨lb,3,none⟩ v1):=rQ.setCell (S:=(· =lb)) (p:=⟨lb,3,none⟩) (uu.mono (az _) (λ_ x=>x.elim)) (.inr rfl) v1
 have hS:w1.ownsRow B 3 1 vS zs.length (zV zs):=vU I.os (λg uO=>by have h2:=I.os.lt g uO;rw[hg.block g aS (λe=>I.ap g e.symm uO)];exact dI _ _ _ h2.2)
 have hL:Eh w1 lb (.slice (some ⟨b,off,none⟩) u.length ct) pl a vN vS tt:=ql.later I.ls uu Nv id;refine⟨⟨hL.atP v1,?_,eQ hS Nv v1,?_,I.IU.later tX Tv (λe=>Ns e.symm),?_,I.but.trans tX⟩,ql.cell hL rfl,ql.frozen hL 3⟩
 .rw[ahd]at h1;rw[bK];exact eQ h1 Nv v1
 .intro g Tf Ue;rcases hk with e|e
  .exact I.ap g (e▸Tf) Ue
  .have h2:=(I.os.lt g Ue).2;rw[e]at Tf;cases Tf;simp at h2;omega
 .have:=tX.size;have:=I.size;omega
theorem LsJ.ar7{z:Nat}(I:LsJ B w0 w lb b off ct u pl a vN vS ns zs tt)(Nv:lb<B)(Tv:b<B)(Ns:lb≠b)(h1:w1.ownsRow B 3 1 v1 (zs.length+1) (zV zs++[.int .i64 (z:Int)]))(hg:(w.alloc o).grownBy w1 vS.ownBlock)(hk:v1.ownBlock=vS.ownBlock\/v1.ownBlock=some (w.alloc o).heap.size):
  LsJ B w0 (w1.setCell ⟨lb,4,none⟩ v1) lb b off ct u pl a vN v1 ns (zs++[z]) tt/\w1.cell? ⟨lb,4,none⟩=some vS/\w1.frozen? ⟨lb,4,none⟩=false:=by
 have uu:rQ B (λ_=>False) w w1:=((rQ.refl _ _ _).alloc I.size o).grown hg (by simp;have:=I.size;omega) (λg hg=>(I.os.lt g hg).1);have tX:rQ B (· =lb) w (w1.setCell ⟨lb,4,none⟩ v1):=rQ.setCell (S:=(· =lb)) (p:=⟨lb,4,none⟩) (uu.mono (az _) (λ_ x=>x.elim)) (.inr rfl) v1
 have hS:w1.ownsRow B 9 1 vN ns.length (DT ns):=vU I.on (λg uO=>by have h2:=I.on.lt g uO;rw[hg.block g aS (λe=>I.ap g uO e.symm)];exact dI _ _ _ h2.2)
 have hL:Eh w1 lb (.slice (some ⟨b,off,none⟩) u.length ct) pl a vN vS tt:=ql.later I.ls uu Nv id;refine⟨⟨hL.atQ v1,eQ hS Nv v1,?_,?_,I.IU.later tX Tv (λe=>Ns e.symm),?_,I.but.trans tX⟩,ql.cell hL rfl,ql.frozen hL 4⟩
 .rw[ahe]at h1;rw[bK];exact eQ h1 Nv v1
 .intro g Tf Ue;rcases hk with e|e
  .exact I.ap g Tf (e▸Ue)
  .have h2:=(I.on.lt g Tf).2;rw[e]at Ue;cases Ue;simp at h2;omega
 .have:=tX.size;have:=I.size;omega
theorem LsJ.ahx(I:LsJ B w0 w lb b off ct u pl a vN vS ns zs tt)(Nv:lb<B)(Tv:b<B)(Ns:lb≠b)(x:Nat):LsJ B w0 (w.setCell ⟨lb,5,none⟩ (.int .i64 (x:Int))) lb b off ct u pl a vN vS ns zs x:=by have tX:rQ B (· =lb) w (w.setCell ⟨lb,5,none⟩ (.int .i64 (x:Int))):=(rQ.refl B (· =lb) w).setCell (p:=⟨lb,5,none⟩) (.inr rfl) _;exact⟨I.ls.ahx x,eQ I.on Nv _,eQ I.os Nv _,I.ap,I.IU.later tX Tv (λe=>Ns e.symm),ax0,I.but.trans tX⟩
theorem LsJ.akF(I:LsJ B w0 w lb b off ct u pl a vN vS ns zs tt)(Nv:lb<B)(Tv:b<B)(Ns:lb≠b)(x:Nat):LsJ B w0 (w.setCell ⟨lb,2,none⟩ (.int .i64 (x:Int))) lb b off ct u pl x vN vS ns zs tt:=by have tX:rQ B (· =lb) w (w.setCell ⟨lb,2,none⟩ (.int .i64 (x:Int))):=(rQ.refl B (· =lb) w).setCell (p:=⟨lb,2,none⟩) (.inr rfl) _;exact⟨I.ls.akF x,eQ I.on Nv _,eQ I.os Nv _,I.ap,I.IU.later tX Tv (λe=>Ns e.symm),ax0,I.but.trans tX⟩
end
section
variable (B lb b off ct:Nat)(u:ak)(pl a:Nat)(vN vS:ai)(ns:List (ak))(zs:aA)(Nv:lb<B)(Tv:b<B)(Ns:lb≠b)(hu:u.length<=1000000)(BD:u.length<ct)(ha:a<=u.length)(vY:pl<=1000000000000)(hns:ns.length<1000)(hzl:zs.length=ns.length)(hzs:zs.sum<=65536)(w:ah)(I:LsI B w lb b off ct u pl a vN vS ns zs)
include Nv Tv Ns hu BD ha vY hns hzl hzs I in
theorem aew(k:Nat)(hk:le u a 2=k)(hs:a+6+k<=u.length)(KP:1<=k)(P7:k<=255)(nm:ak)(Tm:part u (a+2) k=nm)(z:Nat)(hz:le u (a+2+k) 4=z)(anM:zs.sum+z<=65536)(hq:0<ns.length->vO nm (ns.getD (ns.length-1) [])=false):
  Calls prog 144 #[.pointer (some ⟨lb,0,none⟩)] w λq w'=>q=.returned .nilIface/\rQ B (· =lb) w w'/\∃vN vS,LsI B w' lb b off ct u pl (a+(6+nm.length)) vN vS (ns++[nm]) (zs++[z]):=by
 have K:=Bq lb b off ct u pl a vN vS zs.sum hu BD ha w I.ls I.IU ag;rw[hk,show decide (1<=k/\k<=255/\a+6+k<=u.length)=true by simp;omega]at K;have sl:=Aj b off u.length ct (a:Int) ((a:Int)+(k:Int)+6) a (a+k+6) rfl ax ag ag ag;rw[show a+k+6-a=k+6 by omega]at sl;obtain⟨ce,ece⟩:∃ce,ct-a=ce:=⟨_,rfl⟩;have hce:k+6<ce:=ag;rw[ece]at sl;have sl2:=Aj b (off+a) (k+6) ce 2 (2+(k:Int)) 2 (2+k) rfl ax ag ag ag;rw[show 2+k-2=k by omega]at sl2;have hcv:=λw' (hw:Dv w' b off u)=>QX (hw.part (a:=a+2) (n:=k) ag) k (qN ag) (ce-2)
 rw[show off+(a+2)=off+a+2 by omega,Tm]at hcv;have c0:=ql.cell I.ls (i:=0) rfl;have c2:=ql.cell I.ls (i:=2) rfl;have c3:=ql.cell I.ls (i:=3) rfl;have c5:=ql.cell I.ls (i:=5) rfl;have tX:∀j,Dv (w.drewN j) b off u:=λj=>I.IU
 have Zc:IntKind.i64.wrap ((a:Int)+(k:Int))=(a:Int)+(k:Int):=fM _ ag;have ahY:IntKind.i64.wrap ((a:Int)+(k:Int)+6)=(a:Int)+(k:Int)+6:=fM _ ag;have KW:=λj (x:Nat) hx=>B_ lb _ pl a vN vS zs.sum vY ag (w.drewN j) (I.ls.drewN j) (x:Int) x (pl+a+x) rfl hx rfl
 have e4:(part u (a+2+k) 4).length=4:=qN ag
 have LZ:le (part u (a+2+k) 4) 0 4=le u (a+2+k) 4:=by exact azF
 have sl3:=IC b (off+a) (k+6) ce (2+(k:Int)) (2+k) ax ag ag;rw[show k+6-(2+k)=4 by omega]at sl3;have K4:=λn cap=>xy b (off+(a+2+k)) 4 cap (part u (a+2+k) 4) e4 ag (w.drewN n) (I.IU.part ag)
 rw[LZ,hz,show off+(a+2+k)=off+a+(2+k)by omega]at K4;have auu:z<2^32:=ax9;obtain⟨S,eS⟩:∃S,zs.sum=S:=⟨_,rfl⟩;rw[eS]at c5 anM hzs;have ES:Hid (zs.sum=S):=eS;have EN:Hid (nm.length=k):=by show _=_;rw[<-Tm];exact qN ag
 obtain⟨is,his,ar8,ar9,ar_⟩:=dm arL;obtain⟨ii,hii,asa,asb,asc⟩:=dm arM;have Hg:ns.length<1000:=hns;have au1:zs.length<1000:=ag;by_cases q0:ns.length=0
 .have c3':w.cell? ⟨lb,3,none⟩=some (.slice none 0 0)\/∃g cn,w.cell? ⟨lb,3,none⟩=some (.slice (some ⟨g,0,none⟩) 0 cn):=by
   rcases I.on.2 with⟨e,_⟩|⟨g,cn,cur,e,_⟩
   .left;rw[c3,e]
   .right;exact⟨g,cn,by rw[c3,e,q0]⟩
  clear KW c3 ece hk hs hq LZ e4 hz eS Tm hzl hns q0;rcases c3' with c3|⟨g,cn,c3⟩
  all_goals
   go_enter func144,ntmps144
   go_wp2_with(first|(go_at_call 146;refine K.mono ?_;rintro q w2 ⟨rfl,j,yf⟩;obtain rfl:=yf.symm))
   go_big_quiet (fail)
   obtain⟨n1,en1⟩:∃n1,j+nq=n1:=⟨_,rfl⟩;rw[LQ,en1];clear en1;have ahZ:=hcv _ (tX n1)
   go_wp2_with fail
   go_big_quiet (fail)
   go_upto_region 11 with(first|(go_at_call 141;refine(K4 _ _).mono ?_;rintro q w' ⟨rfl,uf⟩;obtain rfl:=uf.symm))
   have I0:∀n,LsJ B w (w.drewN n) lb b off ct u pl a vN vS ns zs S:=λn=>⟨by rw[<-ES.out];exact I.ls,I.on,I.os,I.ap,I.IU,I.size,(rQ.refl _ _ _).drewN _⟩
   try rw[LQ]
   replace I0:=I0 (n1+nq);generalize w.drewN (n1+nq)=wd at I0⊢;have Jj:=I0.size;have d3:=ql.cell I0.ls (i:=3) rfl;clear I K K4 sl sl2 sl3 hcv ahZ c0 c2 c3 c5 tX BD Zc ahY
   go_wp2_with(first|(at_builtin;refine wpList_append_own_at _ rfl _ _ 53 rfl B 9 is (.string ⟨#[]⟩) 1 16 underlying53 his ar8 ar9 ar_ rfl aC _ _ _ rfl (I0.on.alloc _) ⟨wd.heap.size,0,none⟩ 1 1 [.string ⟨nm.toArray⟩] rfl rfl (cell_one_new _ _ _) (afE _) dB ag aS ?_;intro v1 w1 Hm Cf _ ac7;obtain⟨g1,p1,rfl⟩:=BV Hm ag;obtain⟨I1,x3,f3⟩:=I0.asH Nv Tv Ns Hm Cf ac7;have I8:=I1.size;have d4:=ql.cell I1.ls (i:=4) rfl;clear Cf Hm ac7)|(at_builtin;refine wpList_append_own_at _ rfl _ _ 22 rfl B 3 ii (.int .i64 0) 1 8 underlying22 hii asa asb asc rfl aC _ _ _ rfl (I1.os.alloc _) ⟨_,0,none⟩ 1 1 [.int .i64 (z:Int)] rfl rfl (SE _ _ _ _ ax) (afF _) dB ag (by simp at I8⊢;omega) ?_;intro v2 w2 zh xW _ BA;obtain⟨g2,p2,rfl⟩:=BV zh ag;obtain⟨I2,x4,f4⟩:=I1.ar7 Nv Tv Ns zh xW BA;have d5:=ql.cell I2.ls (i:=5) rfl;have f5:=ql.frozen I2.ls 5;have d2:=ql.cell I2.ls (i:=2) rfl;have f2:=ql.frozen I2.ls 2;clear xW zh BA))
   exact azM
 .replace hq:=hq ag;obtain⟨Ze,ec⟩:∃Ze,ns.length=Ze+1:=⟨ns.length-1,ag⟩;have hon:=I.on;obtain⟨g,cn,ev⟩:=BV hon ag;rw[ev]at hon c3;have hla:=hon.cellAt Ze ag;rw[Z_ ag]at hla;rw[show ns.length-1=Ze by omega]at hq;obtain⟨la,el⟩:∃la,ns.getD Ze []=la:=⟨_,rfl⟩;rw[el]at hla hq;rw[ec]at c3 hns;unfold vO at hq;obtain⟨hq1,hq2⟩:=axa.1 hq;clear KW hon ev el ec ece hk hs hq LZ e4 hz eS Tm hzl q0;go_enter func144,ntmps144
  go_wp2_with(first|(go_at_call 146;refine K.mono ?_;rintro q w2 ⟨rfl,j,yf⟩;obtain rfl:=yf.symm))
  go_big_quiet (fail)
  obtain⟨n1,en1⟩:∃n1,j+nq=n1:=⟨_,rfl⟩;rw[LQ,en1];clear en1;have ahZ:=hcv _ (tX n1)
  go_wp2_with fail
  go_big_quiet (fail)
  go_upto_region 11 with(first|(go_at_call 141;refine(K4 _ _).mono ?_;rintro q w' ⟨rfl,uf⟩;obtain rfl:=uf.symm))
  have I0:∀n,LsJ B w (w.drewN n) lb b off ct u pl a vN vS ns zs S:=λn=>⟨by rw[<-ES.out];exact I.ls,I.on,I.os,I.ap,I.IU,I.size,(rQ.refl _ _ _).drewN _⟩
  try rw[LQ]
  replace I0:=I0 (n1+nq);generalize w.drewN (n1+nq)=wd at I0⊢;have Jj:=I0.size;have d3:=ql.cell I0.ls (i:=3) rfl;clear I K K4 sl sl2 sl3 hcv ahZ c0 c2 c3 c5 tX BD Zc ahY
  go_wp2_with(first|(at_builtin;refine wpList_append_own_at _ rfl _ _ 53 rfl B 9 is (.string ⟨#[]⟩) 1 16 underlying53 his ar8 ar9 ar_ rfl aC _ _ _ rfl (I0.on.alloc _) ⟨wd.heap.size,0,none⟩ 1 1 [.string ⟨nm.toArray⟩] rfl rfl (cell_one_new _ _ _) (afE _) dB ag aS ?_;intro v1 w1 Hm Cf _ ac7;obtain⟨g1,p1,rfl⟩:=BV Hm ag;obtain⟨I1,x3,f3⟩:=I0.asH Nv Tv Ns Hm Cf ac7;have I8:=I1.size;have d4:=ql.cell I1.ls (i:=4) rfl;clear Cf Hm ac7)|(at_builtin;refine wpList_append_own_at _ rfl _ _ 22 rfl B 3 ii (.int .i64 0) 1 8 underlying22 hii asa asb asc rfl aC _ _ _ rfl (I1.os.alloc _) ⟨_,0,none⟩ 1 1 [.int .i64 (z:Int)] rfl rfl (SE _ _ _ _ ax) (afF _) dB ag (by simp at I8⊢;omega) ?_;intro v2 w2 zh xW _ BA;obtain⟨g2,p2,rfl⟩:=BV zh ag;obtain⟨I2,x4,f4⟩:=I1.ar7 Nv Tv Ns zh xW BA;have d5:=ql.cell I2.ls (i:=5) rfl;have f5:=ql.frozen I2.ls 5;have d2:=ql.cell I2.ls (i:=2) rfl;have f2:=ql.frozen I2.ls 2;clear xW zh BA))
  exact azM
