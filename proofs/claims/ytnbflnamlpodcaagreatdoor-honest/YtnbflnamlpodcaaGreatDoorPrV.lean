import Derived.Test.YtnbflnamlpodcaaGreatDoorPlD
set_option maxHeartbeats 2000000
set_option maxRecDepth 100000
namespace Go.Proofs.Y
open Go.Proofs.Tryz
open Go.RowKit Go.Deep
structure JZ(s:St)(t L:ak):Prop where
 good:∀x,Good s (L++x)
 here:At L s.pl t
 bd:Bd s
 plb:PlB s
 short:s.nx<=3->t.length<=s.sz
 none:s.nx=4->t=[]
theorem JZ.fit{s:St}{t L:ak}(h:JZ s t L)(h3:s.nx<=3):Fit s:=by
 have hb:=(h.good []).bounds;refine⟨h.bd,h3,λh0=>?_,λh2=>(hb.2.2.2.2 h2).1⟩;rcases hb.2.1 with q|q
 .exact absurd q h0
 .exact⟨ag,ag,ag,ag⟩
theorem At.ahy{L t p:ak}{a n:Nat}(h:At L a t)(hp:p=L.drop (a+t.length)):At L a (t++p.take n):=by
 have h1:=h.1;have hl:(p.take n).length<=L.length-(a+t.length):=by rw[hp];simp;omega
 refine⟨axO,λi hi=>?_⟩;rw[bK]at hi;rcases bJ i t.length with q|q
 .rw[h.2 i q];simp only[tZ,bH];rw[gV q]
 .simp only[tZ,bH];rw[jE q,hp,jX];have:i-t.length<n:=by rw[gZ]at hi;omega
  rw[ay this,avW,show a+t.length+(i-t.length)=a+i by omega]
theorem JZ.next{s s':St}{t L:ak}(h:JZ s t L)(h3:s.nx<=3)(hr:vK s t=.ok s'):JZ (tV s' t) [] L/\meas (tV s' t).nx (tV s' t).ln (tV s' t).qH.length<meas s.nx s.ln s.qH.length:=by
 have hG:=λx=>afN (h.good x) ag (h.here.more x) (h.short h3) hr
 have ht:t.length=s.sz:=(hG []).1;have hGo:=λx=>(hG x).2.1
 have hb:=(hGo []).bounds
 have h1:(tV s' t).nx≠0:=by
  show x_ s'≠0;unfold x_;split
  .omega
  .split
   .omega
   .split<;>omega
 have hP:=h.plb.next h.bd.m h3 hr ht (λq=>by have:=(h.good []).nx2 q;omega);have hat:=h.here.1
 have vY:(tV s' t).pl=s.pl+t.length:=by show s'.pl+t.length=_;rw[(hG []).2.2.1]
 refine⟨⟨hGo,⟨aS,λi hi=>by simp at hi⟩,?_,hP,λ_=>ax,λ_=>rfl⟩,anr (h.good []) h3 hr ht (hGo [])⟩;rcases hb.2.1 with q|q
 .exact absurd q h1
 .have xR:(tV s' t).qH.length<=(tV s' t).ln:=by
   rcases bJ (tV s' t).nx 2 with q2|q2
   .rw[hb.2.2.1 ag];simp
   .exact(hb.2.2.2.2 q2).2
  refine⟨ag,ag,ag,xR,hb.1,?_⟩;obtain⟨p0,p1,p2⟩:=hP;rcases bJ (tV s' t).nx 2 with q2|q2
  .have:=p1 ag;omega
  .have:=p2 q2;split at this<;>omega
def afO(B:Nat)(w:ah)(rb:Nat)(vC vT:ai)(L:ak)(q:Ending)(w':ah):Prop:=
 rQ w.heap.size (qZ rb vC vT) w w'/\
 ((∃v d e,d<=2/\q=.returned v/\sV w' d v e.1 e.2/\qY L=.error e/\(∃r',yw w' rb r')/\(e.1≠4->∀x,qY (L++x)=.error e)/\
   (e.1=4->∃s t vN vS Gx DW,RI B w' rb s t vN vS Gx DW/\JZ s t L/\L.length=s.pl+t.length/\∀k,k<w.heap.size->qZ rb Gx DW k->qZ rb vC vT k))\/
  (q=.returned .nilIface/\∃s vN vS Gx DW,RI B w' rb s [] vN vS Gx DW/\JZ s [] L/\s.nx=4/\L.length=s.pl/\qY L=.ok s.shd/\∀k,k<w.heap.size->qZ rb Gx DW k->qZ rb vC vT k))
def akI(rb:Nat)(w:ah):Nat:=match w.cell? ⟨rb,10,none⟩,w.cell? ⟨rb,8,none⟩,w.cell? ⟨rb,6,none⟩with
 |some (.int _ nx),some (.int _ ln),some (.slice _ n _)=>meas nx.toNat ln.toNat n
 |_,_,_=>0
theorem acG{B rb:Nat}{w:ah}{s:St}{t:ak}{vN vS vC vT:ai}(I:RI B w rb s t vN vS vC vT):akI rb w=meas s.nx s.ln s.qH.length:=by obtain⟨bc,cc,eC,_⟩:=I.oc.slice;have c6:=ql.cell I.rd (i:=6) rfl;have c8:=ql.cell I.rd (i:=8) rfl;have XY:=ql.cell I.rd (i:=10) rfl;simp only[St.rd]at c6 c8 XY;unfold akI;rw[c6,c8,XY,eC];simp
theorem rQ.step{w w1 w2:ah}{S0 S1:Nat->Prop}(h1:rQ w.heap.size S0 w w1)(h2:rQ w1.heap.size S1 w1 w2)(h:∀k,k<w.heap.size->S1 k->S0 k):rQ w.heap.size S0 w w2:=
 ⟨h2.os.trans h1.os,h2.tape.trans h1.tape,h2.output.trans h1.output,bu h1.size h2.size,λk hk hs=>(h2.block k (bG hk h1.size) (λx=>hs (h k hk x))).trans (h1.block k hk hs)⟩
theorem RI.mine{B rb:Nat}{w:ah}{s:St}{t:ak}{vN vS vC vT:ai}(I:RI B w rb s t vN vS vC vT)(hr:B<=rb):∀k,qZ rb vC vT k->B<=k:=by
 intro k h;rcases h with h|h|h
 .omega
 .exact(gJ I.oc k h).1
 .exact(gJ I.ot k h).1
theorem Du.but{w w':ah}{B:Nat}{S:Nat->Prop}(h:Du w)(hb:rQ B S w w')(hB:2<B)(hS:¬S 2):Du w':=
 ⟨bG h.1 hb.size,λi hi=>(hb.cell (p:=⟨2,i,none⟩) hB hS).trans (h.2 i hi)⟩
theorem qZ.fill{rb H k:Nat}{vC vT v':ai}(hk:v'.ownBlock=vT.ownBlock\/∃g,v'.ownBlock=some g/\H<=g)(qK:k<H)(h:qZ rb vC v' k):qZ rb vC vT k:=by
 rcases h with h|h|h
 .exact .inl h
 .exact ayp
 .rcases hk with e|⟨g,e,hg⟩
  .exact .inr (.inr (e▸h))
  .rw[e]at h;cases h;omega
theorem qZ.qH{rb H k:Nat}{vC vT v':ai}(hk:v'.ownBlock=vC.ownBlock\/∃g,v'.ownBlock=some g/\H<=g)(qK:k<H)(h:qZ rb v' vT k):qZ rb vC vT k:=by
 rcases h with h|h|h
 .exact .inl h
 .rcases hk with e|⟨g,e,hg⟩
  .exact .inr (.inl (e▸h))
  .rw[e]at h;cases h;omega
 .exact .inr (.inr h)
theorem Pt.len{w:ah}{M:Nat->Prop}{v:ai}{p:ak}(h:Pt w M v p):∃ba c,v=.slice ba p.length c:=by
 rcases h with⟨rfl,rfl⟩|⟨ad,c,rfl,_⟩
 .exact⟨_,_,rfl⟩
 .exact⟨_,_,rfl⟩
section
variable (B rb:Nat)(L:ak)(s0:St)(t0:ak)(vN0 vS0 vC0 vT0 vp:ai)(w:ah)(I0:RI B w rb s0 t0 vN0 vS0 vC0 vT0)(hS0:JZ s0 t0 L)(hP0:Pt w (qZ rb vC0 vT0) vp (L.drop (s0.pl+t0.length)))(hL:L.length<=4611686018427387904)(uY:Du w)(hPow:Pow w)(Jd:5<=B)(TR:B<=rb)
include I0 hS0 hP0 hL uY hPow Jd TR in
theorem aeA:Calls prog 100 #[.pointer (some ⟨rb,0,none⟩),vp] w λq w'=>afO B w rb vC0 vT0 L q w':=by
 go_enter func100,ntmps100;go_wp2
 go_loopw [1] (λv wr=>∃(s:St)(t p:ak)(vN vS vC vT:ai),RI B wr rb s t vN vS vC vT/\JZ s t L/\Hid (L.drop (s.pl+t.length)=p)/\Pt wr (qZ rb vC vT) v p/\rQ w.heap.size (qZ rb vC0 vT0) w wr/\(∀k,k<w.heap.size->qZ rb vC vT k->qZ rb vC0 vT0 k)) (λ_ wr=>akI rb wr)
 case atStart=>exact⟨s0,t0,_,vN0,vS0,vC0,vT0,I0,hS0,rfl,hP0,rQ.refl _ _ _,λ_ _ h=>h⟩
 case round=>
  obtain⟨s,t,p,vN,vS,vC,vT,I,hS,EP,hP,hBw,hM⟩:=hrel;obtain⟨ba,cp,ev⟩:=hP.len;subst ev;have XY:=ql.cell I.rd (i:=10) rfl;simp only[St.rd]at XY;have hbd:=hS.bd;have hT1:Du wr:=uY.but hBw (by have:=I0.size;omega) (λh=>by have:=I0.mine TR 2 h;omega);have hP1:Pow wr:=hPow.but hBw (λk hk=>⟨by have:=I0.size;omega,λh=>by have:=I0.mine TR k h;omega⟩);have au2:5<=wr.heap.size:=by have:=I.size;omega
  by_cases q4:s.nx=4
  .obtain rfl:=hS.none q4;have hE:=λx=>acz (hS.good x) q4
   have alG:p.length=L.length-s.pl:=by rw[<-EP.out,iG];rfl
   have hat:s.pl<=L.length:=by have:=hS.here.1;simpa using this
   have Uz:=ql.cell I.rd (i:=11) rfl;simp only[St.rd]at Uz;rw[q4]at XY;obtain⟨pl,XJ⟩:∃pl,s.pl=pl:=⟨_,rfl⟩;rw[XJ]at Uz;by_cases q0:0<p.length
   .have HE:Hid (∀x,qY (L++x)=.error (9,pl)):=λx=>by
     rw[hE x,au axO,XJ]
    clear hE hP EP alG hat XJ hS
    go_wp2_with(first|(go_at_call 64;refine(A8 _ _ 9 pl aI aI _).mono ?_;rintro q w2 ⟨v,rfl,g1,g2⟩)|(go_at_call 37;refine(yU _ 0 _ 9 pl _ (by exact g1)).mono ?_;rintro q w3 ⟨v3,rfl,g3,g4⟩))
    go_ret;have wI:Below wr.heap.size wr w3:=g2.trans (g4.mono g2.size);refine⟨hBw.trans (.qF (wI.mono hBw.size)),.inl ⟨_,1,(9,pl),ag,rfl,g3,?_,⟨_,(I.below wI).rd⟩,λ_=>HE.out,λh=>f_⟩⟩;have:=HE.out [];rwa[d_]at this
   .have hLp:L.length=pl:=ag
    have HE:Hid (qY L=.ok s.shd):=by have:=hE [];rw[d_,ay ag]at this;exact this
    have HL:Hid (L.length=s.pl):=by show _=_;rw[XJ];exact hLp
    clear hE hP EP alG hat XJ hLp;go_wp2;go_ret;exact⟨hBw,.inr ⟨rfl,s,vN,vS,vC,vT,I,hS,q4,HL.out,HE.out,hM⟩⟩
  .have h3:s.nx<=3:=by have:=hbd.nx;omega
   have q4':((s.nx:Int)==4)=false:=aS;have au3:((s.nx:Int) != 4)=true:=aS;obtain⟨t',et⟩:∃t',t++p.take (s.sz-t.length)=t':=⟨_,rfl⟩;have alG:p.length=L.length-(s.pl+t.length):=by rw[<-EP.out,iG]
   have hat:=hS.here.1;have hA':At L s.pl t':=by rw[<-et];exact hS.here.ahy EP.out.symm
   have hsh:=hS.short h3;have qK:t'.length<=s.sz:=by rw[<-et,bK,gZ];omega
   have LZ:t'.length<s.sz->L.length=s.pl+t'.length:=by intro h;rw[<-et,bK,gZ]at h⊢;omega
   have ac3:p.drop (s.sz-t.length)=L.drop (s.pl+t'.length):=by
    rw[<-EP.out,pM];rcases bJ t'.length s.sz with q|q
    .have:=LZ q;rw[<-et,bK,gZ]at q;rw[pJ ag,pJ ag]
    .rw[show s.pl+t.length+(s.sz-t.length)=s.pl+t'.length by omega]
   have hS':JZ s t' L:=⟨hS.good,hA',hbd,hS.plb,λ_=>qK,λh=>absurd h q4⟩;have KF:=akH B rb s t p vN vS vC vT _ hbd h3 hsh ag wr I hP;unfold VX at KF;rw[et,ac3]at KF;obtain⟨p',ep'⟩:∃p',L.drop (s.pl+t'.length)=p':=⟨_,rfl⟩;rw[ep']at KF;have EP':Hid (L.drop (s.pl+t'.length)=p'):=ep'
   have HRE:Hid (∀e,vK s t'=.error e->qY L=.error e/\(e.1≠4->∀x,qY (L++x)=.error e)/\(e.1=4->L.length=s.pl+t'.length)):=λe he=>by
    have h4:e.1=4->L.length=s.pl+t'.length:=λh=>LZ (aeZ he h)
    refine⟨?_,λhne x=>acy (hS'.good x) q4 (hA'.more x) qK he (λh=>absurd h hne),h4⟩;have:=acy (hS'.good []) q4 (hA'.more []) qK he (λh=>by rw[d_];exact h4 h);rwa[d_]at this
   have HM:Hid (∀k,k<w.heap.size->qZ rb vC vT k->qZ rb vC0 vT0 k):=hM;have hF:=hS'.fit h3;cases hR:vK s t' with
   |error e=>
    obtain⟨z1,z2,z3⟩:=HRE.out e hR;clear et ac3 LZ hM hP HRE hat ep' alG hsh
    go_wp2_with(first|(go_at_call 121;with_reducible refine KF.mono ?_;rintro q w1 ⟨v1,vT1,rfl,g1,g2,g3,g4⟩;have WV:Du w1:=hT1.but g3 ag (λh=>by have:=I.mine TR 2 h;omega);have hP2:Pow w1:=hP1.but g3 (λk hk=>⟨ag,λh=>by have:=I.mine TR k h;omega⟩);have K:=YU B rb s t' vN vS vC vT1 hF qK w1 g2 WV hP2 (by have:=g3.size;omega);unfold uz at K;rw[hR]at K;simp only at K;clear hR)|(go_at_call 122;with_reducible refine K.mono ?_;rintro q w2 ⟨k1,⟨v2,d,hd,rfl,k2⟩,k3,k4⟩;obtain⟨ty,x,rfl⟩:=k2.iface))
    go_ret;have hM1:∀k,k<w.heap.size->qZ rb vC vT1 k->qZ rb vC0 vT0 k:=λk hk hm=>HM.out k hk (qZ.fill g4 (bG hk hBw.size) hm)
    have Ap:rQ w.heap.size (qZ rb vC0 vT0) w w2:=(hBw.step g3 HM.out).step k1 hM1;exact⟨Ap,.inl ⟨_,d,e,hd,rfl,k2,z1,k3,z2,λh=>⟨s,t',vN,vS,vC,vT1,k4 h,hS',z3 h,hM1⟩⟩⟩
   |ok s'=>
    obtain⟨hS2,Rx⟩:=hS'.next h3 hR;obtain⟨e1,e2,_,_,_⟩:=aaz hR;have tX:Bd s':=⟨hS2.bd.m,hS2.bd.c,hS2.bd.ln,hS2.bd.qH,ag,by rw[e2];exact hbd.pl⟩;have ht4:t'.length<=400000:=bu qK (St.YT hbd);have HMS:Hid _:=Rx;clear et ac3 LZ hM hP HRE hat Rx ep' alG hsh
    go_wp2_with(first|(go_at_call 121;with_reducible refine KF.mono ?_;rintro q w1 ⟨v1,vT1,rfl,g1,g2,g3,g4⟩;have WV:Du w1:=hT1.but g3 ag (λh=>by have:=I.mine TR 2 h;omega);have hP2:Pow w1:=hP1.but g3 (λk hk=>⟨ag,λh=>by have:=I.mine TR k h;omega⟩);have K:=YU B rb s t' vN vS vC vT1 hF qK w1 g2 WV hP2 (by have:=g3.size;omega);unfold uz at K;rw[hR]at K;simp only at K;clear hR)|(go_at_call 122;with_reducible refine K.mono ?_;rintro q w2 ⟨k1,rfl,vN2,vS2,vC2,k2,k3⟩;have KM:=aex B rb s' t' vN2 vS2 vC2 vT1 tX ht4 w2 k2;unfold acC at KM)|(go_at_call 123;with_reducible refine KM.mono ?_;rintro q w3 ⟨rfl,vT3,m1,m2,m3⟩))
    have hM1:∀k,k<w.heap.size->qZ rb vC vT1 k->qZ rb vC0 vT0 k:=λk hk hm=>HM.out k hk (qZ.fill g4 (bG hk hBw.size) hm)
    have hP3:Pt w2 (qZ rb vC2 vT1) v1 p':=g1.later k1 (λ_ h=>h) (λk hk hm=>qZ.qH k3 hk hm)
    have hP4:Pt w3 (qZ rb vC2 vT3) v1 p':=hP3.later m2 (λ_ h=>.inl h) (λk _ hm=>by
     rcases hm with h|h|h
     .exact .inl h
     .exact ayp
     .exact .inr (.inr (m3▸h)))
    have Ov:rQ w.heap.size (qZ rb vC0 vT0) w w3:=((hBw.step g3 HM.out).step k1 hM1).step m2 (λk _ h=>.inl h);refine⟨⟨tV s' t',[],p',vN2,vS2,vC2,vT3,m1,hS2,?_,hP4,Ov,λk hk hm=>?_⟩,?_⟩
    .show _=_;rw[<-EP'.out,(aaA s' t').2.2.2,e2];rfl
    .refine hM1 k hk (qZ.qH k3 (bG hk (bu hBw.size g3.size)) ?_);rcases hm with h|h|h
     .exact .inl h
     .exact ayp
     .exact .inr (.inr (m3▸h))
    .rw[acG m1,acG I];exact HMS.out
end
theorem JZ.more{s:St}{t L:ak}(h:JZ s t L)(p:ak):JZ s t (L++p):=
 ⟨λx=>by rw[fK];exact h.good (p++x),h.here.more p,h.bd,h.plb,h.short,h.none⟩
def aeB(v:ai):Rd:=⟨0,0,0,0,.slice none 0 0,.slice none 0 0,.slice none 0 0,0,0,0,0,0,.slice none 0 0,v⟩
def Live(B:Nat)(w:ah)(rb:Nat)(l:ak)(vC vT:ai):Prop:=∃s t vN vS,RI B w rb s t vN vS vC vT/\JZ s t l/\l.length=s.pl+t.length
def alE(w:ah)(rb:Nat)(l:ak):Prop:=∃v d e,d<=2/\yw w rb (aeB v)/\sV w d v e.1 e.2/\e.1≠4/\∀x,qY (l++x)=.error e
def VZ(B:Nat)(w:ah)(rb:Nat)(vC vT:ai)(L:ak)(q:Ending)(w':ah):Prop:=
 rQ w.heap.size (qZ rb vC vT) w w'/\
 ((∃v d e,d<=2/\q=.returned v/\sV w' d v e.1 e.2/\qY L=.error e/\(e.1≠4->alE w' rb L)/\(e.1=4->∃Gx DW,Live B w' rb L Gx DW/\∀k,k<w.heap.size->qZ rb Gx DW k->qZ rb vC vT k))\/
  (q=.returned .nilIface/\∃s vN vS Gx DW,RI B w' rb s [] vN vS Gx DW/\JZ s [] L/\s.nx=4/\L.length=s.pl/\qY L=.ok s.shd/\∀k,k<w.heap.size->qZ rb Gx DW k->qZ rb vC vT k))
theorem xh.but{w w':ah}{a:Addr}{B:Nat}{S:Nat->Prop}(h:xh w a)(hb:rQ B S w w')(hB:0<B)(hS:¬S 0):xh w' a:=(hb.cell (p:=⟨0,0,none⟩) hB hS).trans h
theorem alH{w:ah}{rb b:Nat}{r:Rd}{cs:aK}{ty:aF}(hr:yw w rb r)(h:ql w b cs ty)(hty:ty≠122):b≠rb:=by rintro rfl;have h2:w.heap[b]?=some (.cells r.cells.toArray 122 (0,0)):=hr;have h3:w.heap[b]?=some (.cells cs.toArray ty (0,0)):=h;rw[h2]at h3;injection h3 with h3;injection h3 with _ h4;exact hty h4.symm
theorem sV.turn{w w':ah}{rb:Nat}{r:Rd}(hr:yw w rb r)(hb:rQ w.heap.size (· =rb) w w'):∀{d:Nat}{v:ai}{e p:Nat},sV w d v e p->sV w' d v e p
 |0,_,_,_,⟨b,e1,h1⟩=>⟨b,e1,h1.later hb h1.lt (alH hr h1 aC)⟩
 |_+1,_,_,_,⟨b,s,c,e1,h1,h2⟩=>⟨b,s,c,e1,h1.later hb h1.lt (alH hr h1 aC),sV.turn hr hb h2⟩
section
variable (B rb:Nat)(l p:ak)(vC vT vp:ai)(w:ah)(hL:Live B w rb l vC vT)(hP:Pt w (qZ rb vC vT) vp p)(hlen:l.length+p.length<=4611686018427387904)(uY:Du w)(hPow:Pow w)(Jd:5<=B)(TR:B<=rb)(a:Addr)(hE:xh w a)
include hL hP hlen uY hPow Jd TR hE in
theorem YF:Calls prog 57 #[.pointer (some ⟨rb,0,none⟩),vp] w λq w'=>VZ B w rb vC vT (l++p) q w':=by
 obtain⟨s,t,vN,vS,I,hS,hl⟩:=hL;have KR:=aeA B rb (l++p) s t vN vS vC vT vp w I (hS.more p) (by rw[<-hl,List.drop_left];exact hP) (by rw[bK];exact hlen) uY hPow Jd TR;unfold afO at KR;have c13:=ql.cell I.rd (i:=13) rfl;simp only[St.rd]at c13;have hsz:=I.size;have afP:=I.mine TR;unfold VZ;cases Ej:qY (l++p)with
 |error e=>
  have K:Calls prog 100 #[.pointer (some ⟨rb,0,none⟩),vp] w λq w'=>rQ w.heap.size (qZ rb vC vT) w w'/\∃v d,d<=2/\q=.returned v/\sV w' d v e.1 e.2/\(∃r',yw w' rb r')/\(e.1≠4->∀x,qY (l++p++x)=.error e)/\
    (e.1=4->∃Gx DW,Live B w' rb (l++p) Gx DW/\∀k,k<w.heap.size->qZ rb Gx DW k->qZ rb vC vT k):=by
   refine KR.mono ?_;rintro q w' ⟨h1,h2⟩;refine⟨h1,?_⟩;rcases h2 with⟨v,d,e',k1,k2,k3,k4,k5,k6,k7⟩|⟨_,s',_,_,_,_,_,_,_,_,k4,_⟩
   .rw[Ej]at k4;cases k4;refine⟨v,d,k1,k2,k3,k5,k6,λh=>?_⟩;obtain⟨s',t',VB,VC,Gx,DW,m1,m2,m3,m4⟩:=k7 h;exact⟨Gx,DW,⟨s',t',VB,VC,m1,m2,m3⟩,m4⟩
   .rw[Ej]at k4;cases k4
  have akJ:∀w',rQ w.heap.size (qZ rb vC vT) w w'->xh w' a:=λw' h=>hE.but h ag (λx=>by have:=afP 0 x;omega)
  by_cases q4:e.1=4
  .have HQ:Hid (e.1=4):=q4;clear KR Ej afP hP uY hPow hS;go_enter func57,ntmps57
   go_upto_region 4 with(first|(go_at_call 100;with_reducible refine K.mono ?_;rintro q w1 ⟨g1,v,d,hd,rfl,g2,g3,g4,g5⟩))
   have hE1:=akJ w1 g1;have KI:=Pv d hd v a e.1 e.2 w1 g2 hE1;rw[ja q4]at KI;obtain⟨ty,x,rfl⟩:=g2.iface;have c1:w1.cell? ⟨0,0,none⟩=_:=hE1
   go_wp2_with(first|(go_at_call 58;with_reducible refine KI.mono ?_;rintro q w2 ⟨rfl,yf⟩;obtain rfl:=yf.symm))
   go_ret;exact⟨g1,.inl ⟨_,d,e,hd,rfl,g2,rfl,λh=>absurd q4 h,λ_=>g5 q4⟩⟩
  .clear KR Ej afP hP uY hPow hS;go_enter func57,ntmps57
   go_upto_region 4 with(first|(go_at_call 100;with_reducible refine K.mono ?_;rintro q w1 ⟨g1,v,d,hd,rfl,g2,g3,g4,g5⟩))
   have hE1:=akJ w1 g1;have KI:=Pv d hd v a e.1 e.2 w1 g2 hE1;rw[fD q4]at KI;obtain⟨ty,x,rfl⟩:=g2.iface;have ce:w1.cell? ⟨0,0,none⟩=_:=hE1;clear c13;obtain⟨r',hr⟩:=g3;have c0:=ql.cell hr (i:=0) rfl;have c1:=ql.cell hr (i:=1) rfl;have c2:=ql.cell hr (i:=2) rfl;have c3:=ql.cell hr (i:=3) rfl;have c4:=ql.cell hr (i:=4) rfl;have c5:=ql.cell hr (i:=5) rfl;have c6:=ql.cell hr (i:=6) rfl;have c7:=ql.cell hr (i:=7) rfl;have c8:=ql.cell hr (i:=8) rfl;have c9:=ql.cell hr (i:=9) rfl;have XY:=ql.cell hr (i:=10) rfl;have Uz:=ql.cell hr (i:=11) rfl;have c12:=ql.cell hr (i:=12) rfl;have c13:=ql.cell hr (i:=13) rfl;have f0:=ql.frozen hr;have HR:yw _ rb (aeB (.iface ty x)):=(((((((((((((ql.set hr 0 (.int .i64 0)).set 1 (.int .i64 0)).set 2 (.int .i64 0)).set 3 (.int .i64 0)).set 4 (.slice none 0 0)).set 5 (.slice none 0 0)).set 6 (.slice none 0 0)).set 7 (.int .i64 0)).set 8 (.int .i64 0)).set 9 (.int .i64 0)).set 10 (.int .i64 0)).set 11 (.int .i64 0)).set 12 (.slice none 0 0)).set 13 (.iface ty x);have I8:rQ w1.heap.size (· =rb) w1 _:=((((((((((((((rQ.refl w1.heap.size (· =rb) w1).setCell (p:=⟨rb,0,none⟩) (.inr rfl) (.int .i64 0)).setCell (p:=⟨rb,1,none⟩) (.inr rfl) (.int .i64 0)).setCell (p:=⟨rb,2,none⟩) (.inr rfl) (.int .i64 0)).setCell (p:=⟨rb,3,none⟩) (.inr rfl) (.int .i64 0)).setCell (p:=⟨rb,4,none⟩) (.inr rfl) (.slice none 0 0)).setCell (p:=⟨rb,5,none⟩) (.inr rfl) (.slice none 0 0)).setCell (p:=⟨rb,6,none⟩) (.inr rfl) (.slice none 0 0)).setCell (p:=⟨rb,7,none⟩) (.inr rfl) (.int .i64 0)).setCell (p:=⟨rb,8,none⟩) (.inr rfl) (.int .i64 0)).setCell (p:=⟨rb,9,none⟩) (.inr rfl) (.int .i64 0)).setCell (p:=⟨rb,10,none⟩) (.inr rfl) (.int .i64 0)).setCell (p:=⟨rb,11,none⟩) (.inr rfl) (.int .i64 0)).setCell (p:=⟨rb,12,none⟩) (.inr rfl) (.slice none 0 0)).setCell (p:=⟨rb,13,none⟩) (.inr rfl) (.iface ty x);have hC1:=g2.turn hr I8
   go_wp2_with(first|(go_at_call 58;with_reducible refine KI.mono ?_;rintro q w2 ⟨rfl,yf⟩;obtain rfl:=yf.symm))
   go_ret;exact⟨g1.step I8 (λk _ h=>.inl h),.inl ⟨_,d,e,hd,rfl,hC1,rfl,λ_=>⟨_,d,e,hd,HR,hC1,q4,g4 q4⟩,λh=>absurd h q4⟩⟩
 |ok sh=>
  have K:Calls prog 100 #[.pointer (some ⟨rb,0,none⟩),vp] w λq w'=>rQ w.heap.size (qZ rb vC vT) w w'/\q=.returned .nilIface/\∃s vN vS Gx DW,RI B w' rb s [] vN vS Gx DW/\JZ s [] (l++p)/\s.nx=4/\(l++p).length=s.pl/\Except.ok sh=(Except.ok s.shd:Except (Nat×Nat) xG)/\∀k,k<w.heap.size->qZ rb Gx DW k->qZ rb vC vT k:=by
   refine KR.mono ?_;rintro q w' ⟨h1,h2⟩;refine⟨h1,?_⟩;rcases h2 with⟨v,d,e',k1,k2,k3,k4,k5,k6,k7⟩|⟨k0,s',VB,VC,Gx,DW,m1,m2,m3,m4,m5,m6⟩
   .rw[Ej]at k4;cases k4
   .rw[Ej]at m5;exact⟨k0,s',VB,VC,Gx,DW,m1,m2,m3,m4,m5,m6⟩
  clear KR Ej afP hP uY hPow hS;go_enter func57,ntmps57
  go_wp2_with(first|(go_at_call 100;with_reducible refine K.mono ?_;rintro q w1 ⟨g1,rfl,g2⟩))
  go_ret;exact⟨g1,.inr ⟨rfl,g2⟩⟩
theorem YE(hD:alE w rb l):Calls prog 57 #[.pointer (some ⟨rb,0,none⟩),vp] w λq w'=>w'=w/\∃v d e,d<=2/\q=.returned v/\sV w d v e.1 e.2/\e.1≠4/\∀x,qY (l++x)=.error e:=by obtain⟨v,d,e,hd,hR,hC,h4,hE⟩:=hD;have c13:=ql.cell hR (i:=13) rfl;obtain⟨ty,x,rfl⟩:=hC.iface;simp only[aeB]at c13;go_enter func57,ntmps57;go_wp2;go_ret;exact⟨rfl,_,d,e,hd,rfl,hC,h4,hE⟩
end
def LJ(B:Nat)(w:ah)(l:ak)(S:Nat->Prop)(q:Ending)(w':ah):Prop:=
 rQ w.heap.size S w w'/\match qY l with
 | .error e=>∃v d,d<=2/\q=.returned (.tuple #[Ep,v])/\sV w' d v e.1 e.2
 | .ok s=>∃vN vS vC,q=.returned (.tuple #[.agg (zi s.k s.n s.i s.c vN vS vC).toArray,.nilIface])/\
   w'.ownsRow B 9 1 vN s.names.length (DT s.names)/\w'.ownsRow B 3 1 vS s.sizes.length (zV s.sizes)/\w'.ownsRow B 5 1 vC s.qH.length (sJ s.qH)
theorem E8{P:aN}{fn:Func}{p u:Tmp}{ty:aF}(h:fn.results=#[.cell p ty,.tmp u])(tmps:aB)(w:ah)(g:Nat)(et:aF)(cs:aB)(fr:Nat×Nat)(d:TypeDesc)
  (hp:tmps.getD p undef=.pointer (some ⟨g,0,none⟩)) (hg:w.heap[g]?=some (.cells cs et fr))
  (hu:P.underlying ty=some d) (hd:(match d with| .struct _| .array _ _=>true|_=>false)=true) (hi:(P.info? ty).map (·.size)=some cs.size):
  (results fn tmps).run P w=.ok (.tuple #[.agg cs,tmps.getD u undef]) w:=by
 have hp':tmps[p]?.getD undef=.pointer (some ⟨g,0,none⟩):=by simpa using hp
 exact azN
theorem Live.below{B:Nat}{w w':ah}{rb:Nat}{l:ak}{vC vT:ai}(h:Live B w rb l vC vT)(hb:Below w.heap.size w w'):Live B w' rb l vC vT:=by obtain⟨s,t,vN,vS,I,hS,hl⟩:=h;exact⟨s,t,vN,vS,I.below hb,hS,hl⟩
theorem Live.lt{B:Nat}{w:ah}{rb:Nat}{l:ak}{vC vT:ai}(h:Live B w rb l vC vT):B<=w.heap.size/\∀k,qZ rb vC vT k->k<w.heap.size:=by
 obtain⟨s,t,vN,vS,I,hS,hl⟩:=h;refine⟨I.size,λk hk=>?_⟩;rcases hk with h|h|h
 .rw[h];exact ql.lt I.rd
 .exact(gJ I.oc k h).2
 .exact(gJ I.ot k h).2
theorem Pow.belows{w w':ah}(h:Pow w)(hb:Below w.heap.size w w')(h16:5<=w.heap.size):Pow w':=h.but (S:=λ_=>False) (.qF hb) (λk hk=>⟨ag,id⟩)
theorem xh.belows{w w':ah}{a:Addr}(h:xh w a)(hb:Below w.heap.size w w'):xh w' a:=(hb.cell (p:=⟨0,0,none⟩) (rG h)).trans h
theorem LK{w:ah}{b b':Nat}{cs cs':aK}{ty ty':aF}(h:ql w b cs ty)(h':ql w b' cs' ty')(hty:ty≠ty'):b≠b':=by rintro rfl;have h2:w.heap[b]?=some (.cells cs.toArray ty (0,0)):=h;have h3:w.heap[b]?=some (.cells cs'.toArray ty' (0,0)):=h';rw[h2]at h3;injection h3 with h3;injection h3 with _ h4;exact hty h4
theorem sV.other{w w':ah}{b0:Nat}{cs:aK}{ty:aF}(hr:ql w b0 cs ty)(t1:ty≠94)(t2:ty≠139)(hb:rQ w.heap.size (· =b0) w w'):∀{d:Nat}{v:ai}{e p:Nat},sV w d v e p->sV w' d v e p
 |0,_,_,_,⟨b,e1,h1⟩=>⟨b,e1,h1.later hb h1.lt (LK h1 hr (λe=>t1 e.symm))⟩
 |_+1,_,_,_,⟨b,s,c,e1,h1,h2⟩=>⟨b,s,c,e1,h1.later hb h1.lt (LK h1 hr (λe=>t2 e.symm)),sV.other hr t1 t2 hb h2⟩
theorem yP{w w':ah}{B b0 e n:Nat}{cs:aK}{ty:aF}{v:ai}{xs:aK}(hr:ql w b0 cs ty)(hb:rQ w.heap.size (· =b0) w w')(h:w.ownsRow B e 1 v n xs)(he:e≠ty):w'.ownsRow B e 1 v n xs:=
 vU h (λg hg=>hb.block g (h.lt g hg).2 (λe1=>by obtain⟨cur,hh⟩:=LP h hg;have h2:w.heap[b0]?=some (.cells cs.toArray ty (0,0)):=hr;subst e1;rw[hh]at h2;injection h2 with h2;injection h2 with _ h4;exact he h4))
theorem ad4{w:ah}{b:Nat}{a0 a1 a2 a3 a4 a5 a6 b0 b1 b2 b3 b4 b5 b6:ai}{ty:aF}(h:ql w b [a0,a1,a2,a3,a4,a5,a6] ty):
  ql (((((((w.setCell ⟨b,0,none⟩ b0).setCell ⟨b,1,none⟩ b1).setCell ⟨b,2,none⟩ b2).setCell ⟨b,3,none⟩ b3).setCell ⟨b,4,none⟩ b4).setCell ⟨b,5,none⟩ b5).setCell ⟨b,6,none⟩ b6) b [b0,b1,b2,b3,b4,b5,b6] ty/\
  rQ w.heap.size (· =b) w (((((((w.setCell ⟨b,0,none⟩ b0).setCell ⟨b,1,none⟩ b1).setCell ⟨b,2,none⟩ b2).setCell ⟨b,3,none⟩ b3).setCell ⟨b,4,none⟩ b4).setCell ⟨b,5,none⟩ b5).setCell ⟨b,6,none⟩ b6):=
 ⟨((((((h.set 0 b0).set 1 b1).set 2 b2).set 3 b3).set 4 b4).set 5 b5).set 6 b6,
  (((((((rQ.refl w.heap.size (· =b) w).setCell (p:=⟨b,0,none⟩) (.inr rfl) b0).setCell (p:=⟨b,1,none⟩) (.inr rfl) b1).setCell (p:=⟨b,2,none⟩) (.inr rfl) b2).setCell (p:=⟨b,3,none⟩) (.inr rfl) b3).setCell (p:=⟨b,4,none⟩) (.inr rfl) b4).setCell (p:=⟨b,5,none⟩) (.inr rfl) b5).setCell (p:=⟨b,6,none⟩) (.inr rfl) b6⟩
def zM:aK:=zi 0 0 0 0 (.slice none 0 0) (.slice none 0 0) (.slice none 0 0)
section
variable (B rb:Nat)(l:ak)(vC vT:ai)(w:ah)(hlen:l.length<=4611686018427387904)(uY:Du w)(hPow:Pow w)(Jd:5<=B)(TR:B<=rb)(a:Addr)(hE:xh w a)
include hlen uY hPow Jd TR hE in
theorem akl(hL:Live B w rb l vC vT):Calls prog 59 #[.pointer (some ⟨rb,0,none⟩)] w λq w'=>LJ B w l (qZ rb vC vT) q w':=by
 have xB:=(aT w.heap.size w).alloc (az _) (.cells zM.toArray 55);have AL:ql (w.alloc (.cells zM.toArray 55)) w.heap.size zM 55:=ql.made w _ _;have qK:=hL.lt;have h16:5<=w.heap.size:=by have:=qK.1;omega
 have hL0:=hL.below xB;have XX:=uY.below xB ag;have hP0:=hPow.belows xB h16;have hE0:=hE.belows xB;have hne:¬qZ rb vC vT w.heap.size:=λh=>by have:=qK.2 _ h;omega
 unfold zM zi at xB AL hL0 XX hP0 hE0;unfold LJ
 have key:∀w0,Below w.heap.size w w0->Live B w0 rb l vC vT->Du w0->Pow w0->xh w0 a->Calls prog 57 #[.pointer (some ⟨rb,0,none⟩),.slice none 0 0] w0 λq w'=>VZ B w0 rb vC vT l q w':=by intro w0 _ hL hT hP hE;have KT:=YF B rb l [] vC vT (.slice none 0 0) w0 hL (.inl ⟨rfl,rfl⟩) awd hT hP Jd TR a hE;rwa[d_]at KT
 cases Ej:qY l with
 |error e=>
  have K:∀w0,Below w.heap.size w w0->Live B w0 rb l vC vT->Du w0->Pow w0->xh w0 a->Calls prog 57 #[.pointer (some ⟨rb,0,none⟩),.slice none 0 0] w0 λq w'=>rQ w0.heap.size (qZ rb vC vT) w0 w'/\∃v d,d<=2/\q=.returned v/\sV w' d v e.1 e.2:=by
   intro w0 z1 z2 z3 z4 z5;refine(key w0 z1 z2 z3 z4 z5).mono ?_;rintro q w' ⟨h1,h2⟩;refine⟨h1,?_⟩;rcases h2 with⟨v,d,e',k1,k2,k3,k4,_⟩|⟨_,s',_,_,_,_,_,_,_,_,k4,_⟩
   .rw[Ej]at k4;cases k4;exact⟨v,d,k1,k2,k3⟩
   .rw[Ej]at k4;cases k4
  clear key Ej hL uY hPow hE;go_enter func59,ntmps59
  go_upto_region 1 with(fail)
  generalize Nu:w.alloc _=w0 at xB AL hL0 XX hP0 hE0⊢;clear Nu;have K0:=K w0 xB hL0 XX hP0 hE0;have XW:w.heap.size<w0.heap.size:=AL.lt;clear K
  go_wp2_with(first|(go_at_call 57;with_reducible refine K0.mono ?_;rintro q w1 ⟨g1,v,d,hd,rfl,g2⟩;obtain⟨ty,x,rfl⟩:=g2.iface;have Gy:=AL.later g1 XW hne;have c0:=Gy.cell (i:=0) rfl;have c1:=Gy.cell (i:=1) rfl;have c2:=Gy.cell (i:=2) rfl;have c3:=Gy.cell (i:=3) rfl;have c4:=Gy.cell (i:=4) rfl;have c5:=Gy.cell (i:=5) rfl;have c6:=Gy.cell (i:=6) rfl;have f0:=Gy.frozen))
  obtain⟨hF,hG⟩:=ad4 (b0:=.int .i64 0) (b1:=.int .i64 0) (b2:=.int .i64 0) (b3:=.int .i64 0) (b4:=.slice none 0 0) (b5:=.slice none 0 0) (b6:=.slice none 0 0) Gy;have hC:=g2.other Gy aC aC hG;refine iD (E8 (p:=2) (u:=3) rfl _ _ w.heap.size 55 _ (0,0) _ aI hF underlying55 rfl aj) rfl ?_;exact⟨((rQ.qF xB).step (g1.mono (az _) (λ_ x=>x)) (λ_ _ x=>x)).step hG (λk hk e=>ag),_,d,hd,rfl,hC⟩
 |ok sh=>
  have K:∀w0,Below w.heap.size w w0->Live B w0 rb l vC vT->Du w0->Pow w0->xh w0 a->Calls prog 57 #[.pointer (some ⟨rb,0,none⟩),.slice none 0 0] w0 λq w'=>rQ w0.heap.size (qZ rb vC vT) w0 w'/\q=.returned .nilIface/\∃s vN vS Gx DW,RI B w' rb s [] vN vS Gx DW/\sh=s.shd:=by
   intro w0 z1 z2 z3 z4 z5;refine(key w0 z1 z2 z3 z4 z5).mono ?_;rintro q w' ⟨h1,h2⟩;refine⟨h1,?_⟩;rcases h2 with⟨v,d,e',k1,k2,k3,k4,_⟩|⟨k0,s',VB,VC,Gx,DW,m1,m2,m3,m4,m5,m6⟩
   .rw[Ej]at k4;cases k4
   .rw[Ej]at m5;cases m5;exact⟨k0,s',VB,VC,Gx,DW,m1,rfl⟩
  clear key Ej hL uY hPow hE;go_enter func59,ntmps59
  go_upto_region 1 with(fail)
  generalize Nu:w.alloc _=w0 at xB AL hL0 XX hP0 hE0⊢;clear Nu;have K0:=K w0 xB hL0 XX hP0 hE0;have XW:w.heap.size<w0.heap.size:=AL.lt;clear K
  go_upto_region 4 with(first|(go_at_call 57;with_reducible refine K0.mono ?_;rintro q w1 ⟨g1,rfl,s,vN,vS,Gx,DW,I,rfl⟩))
  have Gy:=AL.later g1 XW hne;have c0:=Gy.cell (i:=0) rfl;have c1:=Gy.cell (i:=1) rfl;have c2:=Gy.cell (i:=2) rfl;have c3:=Gy.cell (i:=3) rfl;have c4:=Gy.cell (i:=4) rfl;have c5:=Gy.cell (i:=5) rfl;have c6:=Gy.cell (i:=6) rfl;have f0:=Gy.frozen;obtain⟨bn,cn,rfl⟩:=uF I.on;obtain⟨bz,cz,rfl⟩:=uF I.os;obtain⟨bc,cc,eC,_⟩:=I.oc.slice;subst eC;have d0:=ql.cell I.rd (i:=0) rfl;have d1:=ql.cell I.rd (i:=1) rfl;have d2:=ql.cell I.rd (i:=2) rfl;have d3:=ql.cell I.rd (i:=3) rfl;have d4:=ql.cell I.rd (i:=4) rfl;have d5:=ql.cell I.rd (i:=5) rfl;have d6:=ql.cell I.rd (i:=6) rfl;simp only[St.rd]at d0 d1 d2 d3 d4 d5 d6;go_wp2;obtain⟨hF,hG⟩:=ad4 (b0:=.int .i64 (s.k:Int)) (b1:=.int .i64 (s.n:Int)) (b2:=.int .i64 (s.i:Int)) (b3:=.int .i64 (s.c:Int)) (b4:=.slice bn s.ns.length cn) (b5:=.slice bz s.zs.length cz) (b6:=.slice bc s.qH.length cc) Gy;refine iD (E8 (p:=2) (u:=3) rfl _ _ w.heap.size 55 _ (0,0) _ aI hF underlying55 rfl aj) rfl ?_;exact⟨((rQ.qF xB).step (g1.mono (az _) (λ_ x=>x)) (λ_ _ x=>x)).step hG (λk hk e=>ag),_,_,_,rfl,yP Gy hG I.on aC,yP Gy hG I.os aC,yP Gy hG I.oc aC⟩
