import Derived.Test.YtnbflnamlpodcaaGreatDoorPlD
set_option maxHeartbeats 2000000
set_option maxRecDepth 100000
namespace Go.Proofs.Y
open Go.Proofs.Tryz
open Go.RowKit Go.Deep
structure JO(s:St)(t L:List UInt8):Prop where
 good:∀x,Good s (L++x)
 here:At L s.pl t
 bd:Bd s
 plb:PlB s
 short:s.nx<=3->t.length<=s.sz
 none:s.nx=4->t=[]
theorem JO.fit{s:St}{t L:List UInt8}(h:JO s t L)(h3:s.nx<=3):Fit s:=by
 have hb:=(h.good []).bounds;refine⟨h.bd,h3,λh0=>?_,λh2=>(hb.2.2.2.2 h2).1⟩;rcases hb.2.1 with q|q
 .exact absurd q h0
 .exact⟨ae,ae,ae,ae⟩
theorem At.agV{L t p:List UInt8}{a n:Nat}(h:At L a t)(hp:p=L.drop (a+t.length)):At L a (t++p.take n):=by
 have h1:=h.1;have hl:(p.take n).length<=L.length-(a+t.length):=by rw[hp];simp;omega
 refine⟨av1,λi hi=>?_⟩;rw[aS]at hi;rcases aQ i t.length with q|q
 .rw[h.2 i q];simp only[tJ,aO];rw[fF q]
 .simp only[tJ,aO];rw[iW q,hp,kQ];have:i-t.length<n:=by rw[gB]at hi;omega
  rw[aj this,auc,show a+t.length+(i-t.length)=a+i by omega]
theorem JO.next{s s':St}{t L:List UInt8}(h:JO s t L)(h3:s.nx<=3)(hr:uX s t=.ok s'):JO (sV s' t) [] L/\meas (sV s' t).nx (sV s' t).ln (sV s' t).qy.length<meas s.nx s.ln s.qy.length:=by
 have hG:=λx=>afi (h.good x) ae (h.here.more x) (h.short h3) hr
 have ht:t.length=s.sz:=(hG []).1;have hGo:=λx=>(hG x).2.1
 have hb:=(hGo []).bounds
 have h1:(sV s' t).nx≠0:=by
  show xx s'≠0;unfold xx;split
  .omega
  .split
   .omega
   .split<;>omega
 have hP:=h.plb.next h.bd.m h3 hr ht (λq=>by have:=(h.good []).nx2 q;omega);have hat:=h.here.1
 have vP:(sV s' t).pl=s.pl+t.length:=by show s'.pl+t.length=_;rw[(hG []).2.2.1]
 refine⟨⟨hGo,⟨az,λi hi=>by simp at hi⟩,?_,hP,λ_=>ai,λ_=>rfl⟩,amw (h.good []) h3 hr ht (hGo [])⟩;rcases hb.2.1 with q|q
 .exact absurd q h1
 .have xP:(sV s' t).qy.length<=(sV s' t).ln:=by
   rcases aQ (sV s' t).nx 2 with q2|q2
   .rw[hb.2.2.1 ae];simp
   .exact(hb.2.2.2.2 q2).2
  refine⟨ae,ae,ae,xP,hb.1,?_⟩;obtain⟨p0,p1,p2⟩:=hP;rcases aQ (sV s' t).nx 2 with q2|q2
  .have:=p1 ae;omega
  .have:=p2 q2;split at this<;>omega
def afj(B:Nat)(w:World)(rb:Nat)(vC vT:Value)(L:List UInt8)(q:Ending)(w':World):Prop:=
 ru w.heap.size (qO rb vC vT) w w'/\
 ((∃v d e,d<=2/\q=.returned v/\sG w' d v e.1 e.2/\qP L=.error e/\(∃r',xR w' rb r')/\(e.1≠4->∀x,qP (L++x)=.error e)/\
   (e.1=4->∃s t vN vS FT Dq,RI B w' rb s t vN vS FT Dq/\JO s t L/\L.length=s.pl+t.length/\∀k,k<w.heap.size->qO rb FT Dq k->qO rb vC vT k))\/
  (q=.returned .nilIface/\∃s vN vS FT Dq,RI B w' rb s [] vN vS FT Dq/\JO s [] L/\s.nx=4/\L.length=s.pl/\qP L=.ok s.shd/\∀k,k<w.heap.size->qO rb FT Dq k->qO rb vC vT k))
def ajW(rb:Nat)(w:World):Nat:=match w.cell? ⟨rb,10,none⟩,w.cell? ⟨rb,8,none⟩,w.cell? ⟨rb,6,none⟩with
 |some (.int _ nx),some (.int _ ln),some (.slice _ n _)=>meas nx.toNat ln.toNat n
 |_,_,_=>0
theorem ab5{B rb:Nat}{w:World}{s:St}{t:List UInt8}{vN vS vC vT:Value}(I:RI B w rb s t vN vS vC vT):ajW rb w=meas s.nx s.ln s.qy.length:=by obtain⟨bc,cc,eC,_⟩:=I.oc.slice;have c6:=qf.cell I.rd (i:=6) rfl;have c8:=qf.cell I.rd (i:=8) rfl;have Xf:=qf.cell I.rd (i:=10) rfl;simp only[St.rd]at c6 c8 Xf;unfold ajW;rw[c6,c8,Xf,eC];simp
theorem ru.step{w w1 w2:World}{S0 S1:Nat->Prop}(h1:ru w.heap.size S0 w w1)(h2:ru w1.heap.size S1 w1 w2)(h:∀k,k<w.heap.size->S1 k->S0 k):ru w.heap.size S0 w w2:=
 ⟨h2.os.trans h1.os,h2.tape.trans h1.tape,h2.output.trans h1.output,aJ h1.size h2.size,λk hk hs=>(h2.block k (aK hk h1.size) (λx=>hs (h k hk x))).trans (h1.block k hk hs)⟩
theorem RI.mine{B rb:Nat}{w:World}{s:St}{t:List UInt8}{vN vS vC vT:Value}(I:RI B w rb s t vN vS vC vT)(hr:B<=rb):∀k,qO rb vC vT k->B<=k:=by
 intro k h;rcases h with h|h|h
 .omega
 .exact(eQ I.oc k h).1
 .exact(eQ I.ot k h).1
theorem CQ.but{w w':World}{B:Nat}{S:Nat->Prop}(h:CQ w)(hb:ru B S w w')(hB:2<B)(hS:¬S 2):CQ w':=
 ⟨aK h.1 hb.size,λi hi=>(hb.cell (p:=⟨2,i,none⟩) hB hS).trans (h.2 i hi)⟩
theorem qO.fill{rb H k:Nat}{vC vT v':Value}(hk:v'.ownBlock=vT.ownBlock\/∃g,v'.ownBlock=some g/\H<=g)(qE:k<H)(h:qO rb vC v' k):qO rb vC vT k:=by
 rcases h with h|h|h
 .exact .inl h
 .exact awF
 .rcases hk with e|⟨g,e,hg⟩
  .exact .inr (.inr (e▸h))
  .rw[e]at h;cases h;omega
theorem qO.qy{rb H k:Nat}{vC vT v':Value}(hk:v'.ownBlock=vC.ownBlock\/∃g,v'.ownBlock=some g/\H<=g)(qE:k<H)(h:qO rb v' vT k):qO rb vC vT k:=by
 rcases h with h|h|h
 .exact .inl h
 .rcases hk with e|⟨g,e,hg⟩
  .exact .inr (.inl (e▸h))
  .rw[e]at h;cases h;omega
 .exact .inr (.inr h)
theorem Pt.len{w:World}{M:Nat->Prop}{v:Value}{p:List UInt8}(h:Pt w M v p):∃ba c,v=.slice ba p.length c:=by
 rcases h with⟨rfl,rfl⟩|⟨ad,c,rfl,_⟩
 .exact⟨_,_,rfl⟩
 .exact⟨_,_,rfl⟩
section
variable (B rb:Nat)(L:List UInt8)(s0:St)(t0:List UInt8)(vN0 vS0 vC0 vT0 vp:Value)(w:World)(I0:RI B w rb s0 t0 vN0 vS0 vC0 vT0)(hS0:JO s0 t0 L)(hP0:Pt w (qO rb vC0 vT0) vp (L.drop (s0.pl+t0.length)))(hL:L.length<=4611686018427387904)(uN:CQ w)(hPow:Pow w)(IA:5<=B)(SI:B<=rb)
include I0 hS0 hP0 hL uN hPow IA SI in
theorem aeb:Calls prog 100 #[.pointer (some ⟨rb,0,none⟩),vp] w λq w'=>afj B w rb vC0 vT0 L q w':=by
 go_enter func100,ntmps100;go_wp2
 go_loopw [1] (λv wr=>∃(s:St)(t p:List UInt8)(vN vS vC vT:Value),RI B wr rb s t vN vS vC vT/\JO s t L/\Hid (L.drop (s.pl+t.length)=p)/\Pt wr (qO rb vC vT) v p/\ru w.heap.size (qO rb vC0 vT0) w wr/\(∀k,k<w.heap.size->qO rb vC vT k->qO rb vC0 vT0 k)) (λ_ wr=>ajW rb wr)
 case atStart=>exact⟨s0,t0,_,vN0,vS0,vC0,vT0,I0,hS0,rfl,hP0,ru.refl _ _ _,λ_ _ h=>h⟩
 case round=>
  obtain⟨s,t,p,vN,vS,vC,vT,I,hS,EP,hP,hBw,hM⟩:=hrel;obtain⟨ba,cp,ev⟩:=hP.len;subst ev;have Xf:=qf.cell I.rd (i:=10) rfl;simp only[St.rd]at Xf;have hbd:=hS.bd;have hT1:CQ wr:=uN.but hBw (by have:=I0.size;omega) (λh=>by have:=I0.mine SI 2 h;omega);have hP1:Pow wr:=hPow.but hBw (λk hk=>⟨by have:=I0.size;omega,λh=>by have:=I0.mine SI k h;omega⟩);have atA:5<=wr.heap.size:=by have:=I.size;omega
  by_cases q4:s.nx=4
  .obtain rfl:=hS.none q4;have hE:=λx=>abY (hS.good x) q4
   have akU:p.length=L.length-s.pl:=by rw[<-EP.out,g_];rfl
   have hat:s.pl<=L.length:=by have:=hS.here.1;simpa using this
   have TF:=qf.cell I.rd (i:=11) rfl;simp only[St.rd]at TF;rw[q4]at Xf;obtain⟨pl,WT⟩:∃pl,s.pl=pl:=⟨_,rfl⟩;rw[WT]at TF;by_cases q0:0<p.length
   .have HE:Hid (∀x,qP (L++x)=.error (9,pl)):=λx=>by
     rw[hE x,ah av1,WT]
    clear hE hP EP akU hat WT hS
    go_wp2_with(first|(go_at_call 64;refine(Am _ _ 9 pl ax ax _).mono ?_;rintro q w2 ⟨v,rfl,g1,g2⟩)|(go_at_call 37;refine(yD _ 0 _ 9 pl _ (by exact g1)).mono ?_;rintro q w3 ⟨v3,rfl,g3,g4⟩))
    go_ret;have vK:Below wr.heap.size wr w3:=g2.trans (g4.mono g2.size);refine⟨hBw.trans (.qm (vK.mono hBw.size)),.inl ⟨_,1,(9,pl),ae,rfl,g3,?_,⟨_,(I.below vK).rd⟩,λ_=>HE.out,λh=>eP⟩⟩;have:=HE.out [];rwa[dD]at this
   .have hLp:L.length=pl:=ae
    have HE:Hid (qP L=.ok s.shd):=by have:=hE [];rw[dD,aj ae]at this;exact this
    have HL:Hid (L.length=s.pl):=by show _=_;rw[WT];exact hLp
    clear hE hP EP akU hat WT hLp;go_wp2;go_ret;exact⟨hBw,.inr ⟨rfl,s,vN,vS,vC,vT,I,hS,q4,HL.out,HE.out,hM⟩⟩
  .have h3:s.nx<=3:=by have:=hbd.nx;omega
   have q4':((s.nx:Int)==4)=false:=az;have atB:((s.nx:Int) != 4)=true:=az;obtain⟨t',et⟩:∃t',t++p.take (s.sz-t.length)=t':=⟨_,rfl⟩;have akU:p.length=L.length-(s.pl+t.length):=by rw[<-EP.out,g_]
   have hat:=hS.here.1;have hA':At L s.pl t':=by rw[<-et];exact hS.here.agV EP.out.symm
   have hsh:=hS.short h3;have qE:t'.length<=s.sz:=by rw[<-et,aS,gB];omega
   have KO:t'.length<s.sz->L.length=s.pl+t'.length:=by intro h;rw[<-et,aS,gB]at h⊢;omega
   have acr:p.drop (s.sz-t.length)=L.drop (s.pl+t'.length):=by
    rw[<-EP.out,og];rcases aQ t'.length s.sz with q|q
    .have:=KO q;rw[<-et,aS,gB]at q;rw[n_ ae,n_ ae]
    .rw[show s.pl+t.length+(s.sz-t.length)=s.pl+t'.length by omega]
   have hS':JO s t' L:=⟨hS.good,hA',hbd,hS.plb,λ_=>qE,λh=>absurd h q4⟩;have KF:=ajU B rb s t p vN vS vC vT _ hbd h3 hsh ae wr I hP;unfold Vq at KF;rw[et,acr]at KF;obtain⟨p',ep'⟩:∃p',L.drop (s.pl+t'.length)=p':=⟨_,rfl⟩;rw[ep']at KF;have EP':Hid (L.drop (s.pl+t'.length)=p'):=ep'
   have HRE:Hid (∀e,uX s t'=.error e->qP L=.error e/\(e.1≠4->∀x,qP (L++x)=.error e)/\(e.1=4->L.length=s.pl+t'.length)):=λe he=>by
    have h4:e.1=4->L.length=s.pl+t'.length:=λh=>KO (aes he h)
    refine⟨?_,λhne x=>abX (hS'.good x) q4 (hA'.more x) qE he (λh=>absurd h hne),h4⟩;have:=abX (hS'.good []) q4 (hA'.more []) qE he (λh=>by rw[dD];exact h4 h);rwa[dD]at this
   have HM:Hid (∀k,k<w.heap.size->qO rb vC vT k->qO rb vC0 vT0 k):=hM;have hF:=hS'.fit h3;cases hR:uX s t' with
   |error e=>
    obtain⟨z1,z2,z3⟩:=HRE.out e hR;clear et acr KO hM hP HRE hat ep' akU hsh
    go_wp2_with(first|(go_at_call 121;with_reducible refine KF.mono ?_;rintro q w1 ⟨v1,vT1,rfl,g1,g2,g3,g4⟩;have VT:CQ w1:=hT1.but g3 ae (λh=>by have:=I.mine SI 2 h;omega);have hP2:Pow w1:=hP1.but g3 (λk hk=>⟨ae,λh=>by have:=I.mine SI k h;omega⟩);have K:=Yd B rb s t' vN vS vC vT1 hF qE w1 g2 VT hP2 (by have:=g3.size;omega);unfold ui at K;rw[hR]at K;simp only at K;clear hR)|(go_at_call 122;with_reducible refine K.mono ?_;rintro q w2 ⟨k1,⟨v2,d,hd,rfl,k2⟩,k3,k4⟩;obtain⟨ty,x,rfl⟩:=k2.iface))
    go_ret;have hM1:∀k,k<w.heap.size->qO rb vC vT1 k->qO rb vC0 vT0 k:=λk hk hm=>HM.out k hk (qO.fill g4 (aK hk hBw.size) hm)
    have Ae:ru w.heap.size (qO rb vC0 vT0) w w2:=(hBw.step g3 HM.out).step k1 hM1;exact⟨Ae,.inl ⟨_,d,e,hd,rfl,k2,z1,k3,z2,λh=>⟨s,t',vN,vS,vC,vT1,k4 h,hS',z3 h,hM1⟩⟩⟩
   |ok s'=>
    obtain⟨hS2,QD⟩:=hS'.next h3 hR;obtain⟨e1,e2,_,_,_⟩:=ZI hR;have sZ:Bd s':=⟨hS2.bd.m,hS2.bd.c,hS2.bd.ln,hS2.bd.qy,ae,by rw[e2];exact hbd.pl⟩;have ht4:t'.length<=400000:=aJ qE (St.Yc hbd);have HMS:Hid _:=QD;clear et acr KO hM hP HRE hat QD ep' akU hsh
    go_wp2_with(first|(go_at_call 121;with_reducible refine KF.mono ?_;rintro q w1 ⟨v1,vT1,rfl,g1,g2,g3,g4⟩;have VT:CQ w1:=hT1.but g3 ae (λh=>by have:=I.mine SI 2 h;omega);have hP2:Pow w1:=hP1.but g3 (λk hk=>⟨ae,λh=>by have:=I.mine SI k h;omega⟩);have K:=Yd B rb s t' vN vS vC vT1 hF qE w1 g2 VT hP2 (by have:=g3.size;omega);unfold ui at K;rw[hR]at K;simp only at K;clear hR)|(go_at_call 122;with_reducible refine K.mono ?_;rintro q w2 ⟨k1,rfl,vN2,vS2,vC2,k2,k3⟩;have KM:=ad8 B rb s' t' vN2 vS2 vC2 vT1 sZ ht4 w2 k2;unfold ab2 at KM)|(go_at_call 123;with_reducible refine KM.mono ?_;rintro q w3 ⟨rfl,vT3,m1,m2,m3⟩))
    have hM1:∀k,k<w.heap.size->qO rb vC vT1 k->qO rb vC0 vT0 k:=λk hk hm=>HM.out k hk (qO.fill g4 (aK hk hBw.size) hm)
    have hP3:Pt w2 (qO rb vC2 vT1) v1 p':=g1.later k1 (λ_ h=>h) (λk hk hm=>qO.qy k3 hk hm)
    have hP4:Pt w3 (qO rb vC2 vT3) v1 p':=hP3.later m2 (λ_ h=>.inl h) (λk _ hm=>by
     rcases hm with h|h|h
     .exact .inl h
     .exact awF
     .exact .inr (.inr (m3▸h)))
    have Ny:ru w.heap.size (qO rb vC0 vT0) w w3:=((hBw.step g3 HM.out).step k1 hM1).step m2 (λk _ h=>.inl h);refine⟨⟨sV s' t',[],p',vN2,vS2,vC2,vT3,m1,hS2,?_,hP4,Ny,λk hk hm=>?_⟩,?_⟩
    .show _=_;rw[<-EP'.out,(ZJ s' t').2.2.2,e2];rfl
    .refine hM1 k hk (qO.qy k3 (aK hk (aJ hBw.size g3.size)) ?_);rcases hm with h|h|h
     .exact .inl h
     .exact awF
     .exact .inr (.inr (m3▸h))
    .rw[ab5 m1,ab5 I];exact HMS.out
end
theorem JO.more{s:St}{t L:List UInt8}(h:JO s t L)(p:List UInt8):JO s t (L++p):=
 ⟨λx=>by rw[dU];exact h.good (p++x),h.here.more p,h.bd,h.plb,h.short,h.none⟩
def aec(v:Value):Rd:=⟨0,0,0,0,.slice none 0 0,.slice none 0 0,.slice none 0 0,0,0,0,0,0,.slice none 0 0,v⟩
def Live(B:Nat)(w:World)(rb:Nat)(l:List UInt8)(vC vT:Value):Prop:=∃s t vN vS,RI B w rb s t vN vS vC vT/\JO s t l/\l.length=s.pl+t.length
def akV(w:World)(rb:Nat)(l:List UInt8):Prop:=∃v d e,d<=2/\xR w rb (aec v)/\sG w d v e.1 e.2/\e.1≠4/\∀x,qP (l++x)=.error e
def Vs(B:Nat)(w:World)(rb:Nat)(vC vT:Value)(L:List UInt8)(q:Ending)(w':World):Prop:=
 ru w.heap.size (qO rb vC vT) w w'/\
 ((∃v d e,d<=2/\q=.returned v/\sG w' d v e.1 e.2/\qP L=.error e/\(e.1≠4->akV w' rb L)/\(e.1=4->∃FT Dq,Live B w' rb L FT Dq/\∀k,k<w.heap.size->qO rb FT Dq k->qO rb vC vT k))\/
  (q=.returned .nilIface/\∃s vN vS FT Dq,RI B w' rb s [] vN vS FT Dq/\JO s [] L/\s.nx=4/\L.length=s.pl/\qP L=.ok s.shd/\∀k,k<w.heap.size->qO rb FT Dq k->qO rb vC vT k))
theorem wQ.but{w w':World}{a:Addr}{B:Nat}{S:Nat->Prop}(h:wQ w a)(hb:ru B S w w')(hB:0<B)(hS:¬S 0):wQ w' a:=(hb.cell (p:=⟨0,0,none⟩) hB hS).trans h
theorem akW{w:World}{rb b:Nat}{r:Rd}{cs:List Value}{ty:TypeId}(hr:xR w rb r)(h:qf w b cs ty)(hty:ty≠122):b≠rb:=by rintro rfl;have h2:w.heap[b]?=some (.cells r.cells.toArray 122 (0,0)):=hr;have h3:w.heap[b]?=some (.cells cs.toArray ty (0,0)):=h;rw[h2]at h3;injection h3 with h3;injection h3 with _ h4;exact hty h4.symm
theorem sG.turn{w w':World}{rb:Nat}{r:Rd}(hr:xR w rb r)(hb:ru w.heap.size (· =rb) w w'):∀{d:Nat}{v:Value}{e p:Nat},sG w d v e p->sG w' d v e p
 |0,_,_,_,⟨b,e1,h1⟩=>⟨b,e1,h1.later hb h1.lt (akW hr h1 au)⟩
 |_+1,_,_,_,⟨b,s,c,e1,h1,h2⟩=>⟨b,s,c,e1,h1.later hb h1.lt (akW hr h1 au),sG.turn hr hb h2⟩
section
variable (B rb:Nat)(l p:List UInt8)(vC vT vp:Value)(w:World)(hL:Live B w rb l vC vT)(hP:Pt w (qO rb vC vT) vp p)(hlen:l.length+p.length<=4611686018427387904)(uN:CQ w)(hPow:Pow w)(IA:5<=B)(SI:B<=rb)(a:Addr)(hE:wQ w a)
include hL hP hlen uN hPow IA SI hE in
theorem Yh:Calls prog 57 #[.pointer (some ⟨rb,0,none⟩),vp] w λq w'=>Vs B w rb vC vT (l++p) q w':=by
 obtain⟨s,t,vN,vS,I,hS,hl⟩:=hL;have KR:=aeb B rb (l++p) s t vN vS vC vT vp w I (hS.more p) (by rw[<-hl,List.drop_left];exact hP) (by rw[aS];exact hlen) uN hPow IA SI;unfold afj at KR;have c13:=qf.cell I.rd (i:=13) rfl;simp only[St.rd]at c13;have hsz:=I.size;have afk:=I.mine SI;unfold Vs;cases DW:qP (l++p)with
 |error e=>
  have K:Calls prog 100 #[.pointer (some ⟨rb,0,none⟩),vp] w λq w'=>ru w.heap.size (qO rb vC vT) w w'/\∃v d,d<=2/\q=.returned v/\sG w' d v e.1 e.2/\(∃r',xR w' rb r')/\(e.1≠4->∀x,qP (l++p++x)=.error e)/\
    (e.1=4->∃FT Dq,Live B w' rb (l++p) FT Dq/\∀k,k<w.heap.size->qO rb FT Dq k->qO rb vC vT k):=by
   refine KR.mono ?_;rintro q w' ⟨h1,h2⟩;refine⟨h1,?_⟩;rcases h2 with⟨v,d,e',k1,k2,k3,k4,k5,k6,k7⟩|⟨_,s',_,_,_,_,_,_,_,_,k4,_⟩
   .rw[DW]at k4;cases k4;refine⟨v,d,k1,k2,k3,k5,k6,λh=>?_⟩;obtain⟨s',t',Vj,Vk,FT,Dq,m1,m2,m3,m4⟩:=k7 h;exact⟨FT,Dq,⟨s',t',Vj,Vk,m1,m2,m3⟩,m4⟩
   .rw[DW]at k4;cases k4
  have ajX:∀w',ru w.heap.size (qO rb vC vT) w w'->wQ w' a:=λw' h=>hE.but h ae (λx=>by have:=afk 0 x;omega)
  by_cases q4:e.1=4
  .have HQ:Hid (e.1=4):=q4;clear KR DW afk hP uN hPow hS;go_enter func57,ntmps57
   go_upto_region 4 with(first|(go_at_call 100;with_reducible refine K.mono ?_;rintro q w1 ⟨g1,v,d,hd,rfl,g2,g3,g4,g5⟩))
   have hE1:=ajX w1 g1;have KI:=OW d hd v a e.1 e.2 w1 g2 hE1;rw[iq q4]at KI;obtain⟨ty,x,rfl⟩:=g2.iface;have c1:w1.cell? ⟨0,0,none⟩=_:=hE1
   go_wp2_with(first|(go_at_call 58;with_reducible refine KI.mono ?_;rintro q w2 ⟨rfl,xG⟩;obtain rfl:=xG.symm))
   go_ret;exact⟨g1,.inl ⟨_,d,e,hd,rfl,g2,rfl,λh=>absurd q4 h,λ_=>g5 q4⟩⟩
  .clear KR DW afk hP uN hPow hS;go_enter func57,ntmps57
   go_upto_region 4 with(first|(go_at_call 100;with_reducible refine K.mono ?_;rintro q w1 ⟨g1,v,d,hd,rfl,g2,g3,g4,g5⟩))
   have hE1:=ajX w1 g1;have KI:=OW d hd v a e.1 e.2 w1 g2 hE1;rw[dP q4]at KI;obtain⟨ty,x,rfl⟩:=g2.iface;have ce:w1.cell? ⟨0,0,none⟩=_:=hE1;clear c13;obtain⟨r',hr⟩:=g3;have c0:=qf.cell hr (i:=0) rfl;have c1:=qf.cell hr (i:=1) rfl;have c2:=qf.cell hr (i:=2) rfl;have c3:=qf.cell hr (i:=3) rfl;have c4:=qf.cell hr (i:=4) rfl;have c5:=qf.cell hr (i:=5) rfl;have c6:=qf.cell hr (i:=6) rfl;have c7:=qf.cell hr (i:=7) rfl;have c8:=qf.cell hr (i:=8) rfl;have c9:=qf.cell hr (i:=9) rfl;have Xf:=qf.cell hr (i:=10) rfl;have TF:=qf.cell hr (i:=11) rfl;have ZW:=qf.cell hr (i:=12) rfl;have c13:=qf.cell hr (i:=13) rfl;have f0:=qf.frozen hr;have HR:xR _ rb (aec (.iface ty x)):=(((((((((((((qf.set hr 0 (.int .i64 0)).set 1 (.int .i64 0)).set 2 (.int .i64 0)).set 3 (.int .i64 0)).set 4 (.slice none 0 0)).set 5 (.slice none 0 0)).set 6 (.slice none 0 0)).set 7 (.int .i64 0)).set 8 (.int .i64 0)).set 9 (.int .i64 0)).set 10 (.int .i64 0)).set 11 (.int .i64 0)).set 12 (.slice none 0 0)).set 13 (.iface ty x);have Iq:ru w1.heap.size (· =rb) w1 _:=((((((((((((((ru.refl w1.heap.size (· =rb) w1).setCell (p:=⟨rb,0,none⟩) (.inr rfl) (.int .i64 0)).setCell (p:=⟨rb,1,none⟩) (.inr rfl) (.int .i64 0)).setCell (p:=⟨rb,2,none⟩) (.inr rfl) (.int .i64 0)).setCell (p:=⟨rb,3,none⟩) (.inr rfl) (.int .i64 0)).setCell (p:=⟨rb,4,none⟩) (.inr rfl) (.slice none 0 0)).setCell (p:=⟨rb,5,none⟩) (.inr rfl) (.slice none 0 0)).setCell (p:=⟨rb,6,none⟩) (.inr rfl) (.slice none 0 0)).setCell (p:=⟨rb,7,none⟩) (.inr rfl) (.int .i64 0)).setCell (p:=⟨rb,8,none⟩) (.inr rfl) (.int .i64 0)).setCell (p:=⟨rb,9,none⟩) (.inr rfl) (.int .i64 0)).setCell (p:=⟨rb,10,none⟩) (.inr rfl) (.int .i64 0)).setCell (p:=⟨rb,11,none⟩) (.inr rfl) (.int .i64 0)).setCell (p:=⟨rb,12,none⟩) (.inr rfl) (.slice none 0 0)).setCell (p:=⟨rb,13,none⟩) (.inr rfl) (.iface ty x);have hC1:=g2.turn hr Iq
   go_wp2_with(first|(go_at_call 58;with_reducible refine KI.mono ?_;rintro q w2 ⟨rfl,xG⟩;obtain rfl:=xG.symm))
   go_ret;exact⟨g1.step Iq (λk _ h=>.inl h),.inl ⟨_,d,e,hd,rfl,hC1,rfl,λ_=>⟨_,d,e,hd,HR,hC1,q4,g4 q4⟩,λh=>absurd h q4⟩⟩
 |ok sh=>
  have K:Calls prog 100 #[.pointer (some ⟨rb,0,none⟩),vp] w λq w'=>ru w.heap.size (qO rb vC vT) w w'/\q=.returned .nilIface/\∃s vN vS FT Dq,RI B w' rb s [] vN vS FT Dq/\JO s [] (l++p)/\s.nx=4/\(l++p).length=s.pl/\Except.ok sh=(Except.ok s.shd:Except (Nat×Nat) xg)/\∀k,k<w.heap.size->qO rb FT Dq k->qO rb vC vT k:=by
   refine KR.mono ?_;rintro q w' ⟨h1,h2⟩;refine⟨h1,?_⟩;rcases h2 with⟨v,d,e',k1,k2,k3,k4,k5,k6,k7⟩|⟨k0,s',Vj,Vk,FT,Dq,m1,m2,m3,m4,m5,m6⟩
   .rw[DW]at k4;cases k4
   .rw[DW]at m5;exact⟨k0,s',Vj,Vk,FT,Dq,m1,m2,m3,m4,m5,m6⟩
  clear KR DW afk hP uN hPow hS;go_enter func57,ntmps57
  go_wp2_with(first|(go_at_call 100;with_reducible refine K.mono ?_;rintro q w1 ⟨g1,rfl,g2⟩))
  go_ret;exact⟨g1,.inr ⟨rfl,g2⟩⟩
theorem Yi(hD:akV w rb l):Calls prog 57 #[.pointer (some ⟨rb,0,none⟩),vp] w λq w'=>w'=w/\∃v d e,d<=2/\q=.returned v/\sG w d v e.1 e.2/\e.1≠4/\∀x,qP (l++x)=.error e:=by obtain⟨v,d,e,hd,hR,hC,h4,hE⟩:=hD;have c13:=qf.cell hR (i:=13) rfl;obtain⟨ty,x,rfl⟩:=hC.iface;simp only[aec]at c13;go_enter func57,ntmps57;go_wp2;go_ret;exact⟨rfl,_,d,e,hd,rfl,hC,h4,hE⟩
end
def Ky(B:Nat)(w:World)(l:List UInt8)(S:Nat->Prop)(q:Ending)(w':World):Prop:=
 ru w.heap.size S w w'/\match qP l with
 | .error e=>∃v d,d<=2/\q=.returned (.tuple #[D5,v])/\sG w' d v e.1 e.2
 | .ok s=>∃vN vS vC,q=.returned (.tuple #[.agg (yQ s.k s.n s.i s.c vN vS vC).toArray,.nilIface])/\
   w'.ownsRow B 9 1 vN s.names.length (Dk s.names)/\w'.ownsRow B 3 1 vS s.sizes.length (zF s.sizes)/\w'.ownsRow B 5 1 vC s.qy.length (r_ s.qy)
theorem Ew{P:Program}{fn:Func}{p u:Tmp}{ty:TypeId}(h:fn.results=#[.cell p ty,.tmp u])(tmps:Array Value)(w:World)(g:Nat)(et:TypeId)(cs:Array Value)(fr:Nat×Nat)(d:TypeDesc)
  (hp:tmps.getD p undef=.pointer (some ⟨g,0,none⟩)) (hg:w.heap[g]?=some (.cells cs et fr))
  (hu:P.underlying ty=some d) (hd:(match d with| .struct _| .array _ _=>true|_=>false)=true) (hi:(P.info? ty).map (·.size)=some cs.size):
  (results fn tmps).run P w=.ok (.tuple #[.agg cs,tmps.getD u undef]) w:=by
 have hp':tmps[p]?.getD undef=.pointer (some ⟨g,0,none⟩):=by simpa using hp
 exact axZ
theorem Live.below{B:Nat}{w w':World}{rb:Nat}{l:List UInt8}{vC vT:Value}(h:Live B w rb l vC vT)(hb:Below w.heap.size w w'):Live B w' rb l vC vT:=by obtain⟨s,t,vN,vS,I,hS,hl⟩:=h;exact⟨s,t,vN,vS,I.below hb,hS,hl⟩
theorem Live.lt{B:Nat}{w:World}{rb:Nat}{l:List UInt8}{vC vT:Value}(h:Live B w rb l vC vT):B<=w.heap.size/\∀k,qO rb vC vT k->k<w.heap.size:=by
 obtain⟨s,t,vN,vS,I,hS,hl⟩:=h;refine⟨I.size,λk hk=>?_⟩;rcases hk with h|h|h
 .rw[h];exact qf.lt I.rd
 .exact(eQ I.oc k h).2
 .exact(eQ I.ot k h).2
theorem Pow.belows{w w':World}(h:Pow w)(hb:Below w.heap.size w w')(h16:5<=w.heap.size):Pow w':=h.but (S:=λ_=>False) (.qm hb) (λk hk=>⟨ae,id⟩)
theorem wQ.belows{w w':World}{a:Addr}(h:wQ w a)(hb:Below w.heap.size w w'):wQ w' a:=(hb.cell (p:=⟨0,0,none⟩) (rM h)).trans h
theorem KD{w:World}{b b':Nat}{cs cs':List Value}{ty ty':TypeId}(h:qf w b cs ty)(h':qf w b' cs' ty')(hty:ty≠ty'):b≠b':=by rintro rfl;have h2:w.heap[b]?=some (.cells cs.toArray ty (0,0)):=h;have h3:w.heap[b]?=some (.cells cs'.toArray ty' (0,0)):=h';rw[h2]at h3;injection h3 with h3;injection h3 with _ h4;exact hty h4
theorem sG.other{w w':World}{b0:Nat}{cs:List Value}{ty:TypeId}(hr:qf w b0 cs ty)(t1:ty≠94)(t2:ty≠139)(hb:ru w.heap.size (· =b0) w w'):∀{d:Nat}{v:Value}{e p:Nat},sG w d v e p->sG w' d v e p
 |0,_,_,_,⟨b,e1,h1⟩=>⟨b,e1,h1.later hb h1.lt (KD h1 hr (λe=>t1 e.symm))⟩
 |_+1,_,_,_,⟨b,s,c,e1,h1,h2⟩=>⟨b,s,c,e1,h1.later hb h1.lt (KD h1 hr (λe=>t2 e.symm)),sG.other hr t1 t2 hb h2⟩
theorem yG{w w':World}{B b0 e n:Nat}{cs:List Value}{ty:TypeId}{v:Value}{xs:List Value}(hr:qf w b0 cs ty)(hb:ru w.heap.size (· =b0) w w')(h:w.ownsRow B e 1 v n xs)(he:e≠ty):w'.ownsRow B e 1 v n xs:=
 vI h (λg hg=>hb.block g (h.lt g hg).2 (λe1=>by obtain⟨cur,hh⟩:=Kw h hg;have h2:w.heap[b0]?=some (.cells cs.toArray ty (0,0)):=hr;subst e1;rw[hh]at h2;injection h2 with h2;injection h2 with _ h4;exact he h4))
theorem aed{w:World}{b:Nat}{a0 a1 a2 a3 a4 a5 a6 b0 b1 b2 b3 b4 b5 b6:Value}{ty:TypeId}(h:qf w b [a0,a1,a2,a3,a4,a5,a6] ty):
  qf (((((((w.setCell ⟨b,0,none⟩ b0).setCell ⟨b,1,none⟩ b1).setCell ⟨b,2,none⟩ b2).setCell ⟨b,3,none⟩ b3).setCell ⟨b,4,none⟩ b4).setCell ⟨b,5,none⟩ b5).setCell ⟨b,6,none⟩ b6) b [b0,b1,b2,b3,b4,b5,b6] ty/\
  ru w.heap.size (· =b) w (((((((w.setCell ⟨b,0,none⟩ b0).setCell ⟨b,1,none⟩ b1).setCell ⟨b,2,none⟩ b2).setCell ⟨b,3,none⟩ b3).setCell ⟨b,4,none⟩ b4).setCell ⟨b,5,none⟩ b5).setCell ⟨b,6,none⟩ b6):=
 ⟨((((((h.set 0 b0).set 1 b1).set 2 b2).set 3 b3).set 4 b4).set 5 b5).set 6 b6,
  (((((((ru.refl w.heap.size (· =b) w).setCell (p:=⟨b,0,none⟩) (.inr rfl) b0).setCell (p:=⟨b,1,none⟩) (.inr rfl) b1).setCell (p:=⟨b,2,none⟩) (.inr rfl) b2).setCell (p:=⟨b,3,none⟩) (.inr rfl) b3).setCell (p:=⟨b,4,none⟩) (.inr rfl) b4).setCell (p:=⟨b,5,none⟩) (.inr rfl) b5).setCell (p:=⟨b,6,none⟩) (.inr rfl) b6⟩
def zy:List Value:=yQ 0 0 0 0 (.slice none 0 0) (.slice none 0 0) (.slice none 0 0)
section
variable (B rb:Nat)(l:List UInt8)(vC vT:Value)(w:World)(hlen:l.length<=4611686018427387904)(uN:CQ w)(hPow:Pow w)(IA:5<=B)(SI:B<=rb)(a:Addr)(hE:wQ w a)
include hlen uN hPow IA SI hE in
theorem ajY(hL:Live B w rb l vC vT):Calls prog 59 #[.pointer (some ⟨rb,0,none⟩)] w λq w'=>Ky B w l (qO rb vC vT) q w':=by
 have xq:=(aA w.heap.size w).alloc (ak _) (.cells zy.toArray 55);have Ac:qf (w.alloc (.cells zy.toArray 55)) w.heap.size zy 55:=qf.made w _ _;have qE:=hL.lt;have h16:5<=w.heap.size:=by have:=qE.1;omega
 have hL0:=hL.below xq;have Z5:=uN.below xq ae;have hP0:=hPow.belows xq h16;have hE0:=hE.belows xq;have hne:¬qO rb vC vT w.heap.size:=λh=>by have:=qE.2 _ h;omega
 unfold zy yQ at xq Ac hL0 Z5 hP0 hE0;unfold Ky
 have key:∀w0,Below w.heap.size w w0->Live B w0 rb l vC vT->CQ w0->Pow w0->wQ w0 a->Calls prog 57 #[.pointer (some ⟨rb,0,none⟩),.slice none 0 0] w0 λq w'=>Vs B w0 rb vC vT l q w':=by intro w0 _ hL hT hP hE;have KT:=Yh B rb l [] vC vT (.slice none 0 0) w0 hL (.inl ⟨rfl,rfl⟩) aus hT hP IA SI a hE;rwa[dD]at KT
 cases DW:qP l with
 |error e=>
  have K:∀w0,Below w.heap.size w w0->Live B w0 rb l vC vT->CQ w0->Pow w0->wQ w0 a->Calls prog 57 #[.pointer (some ⟨rb,0,none⟩),.slice none 0 0] w0 λq w'=>ru w0.heap.size (qO rb vC vT) w0 w'/\∃v d,d<=2/\q=.returned v/\sG w' d v e.1 e.2:=by
   intro w0 z1 z2 z3 z4 z5;refine(key w0 z1 z2 z3 z4 z5).mono ?_;rintro q w' ⟨h1,h2⟩;refine⟨h1,?_⟩;rcases h2 with⟨v,d,e',k1,k2,k3,k4,_⟩|⟨_,s',_,_,_,_,_,_,_,_,k4,_⟩
   .rw[DW]at k4;cases k4;exact⟨v,d,k1,k2,k3⟩
   .rw[DW]at k4;cases k4
  clear key DW hL uN hPow hE;go_enter func59,ntmps59
  go_upto_region 1 with(fail)
  generalize L9:w.alloc _=w0 at xq Ac hL0 Z5 hP0 hE0⊢;clear L9;have K0:=K w0 xq hL0 Z5 hP0 hE0;have Xc:w.heap.size<w0.heap.size:=Ac.lt;clear K
  go_wp2_with(first|(go_at_call 57;with_reducible refine K0.mono ?_;rintro q w1 ⟨g1,v,d,hd,rfl,g2⟩;obtain⟨ty,x,rfl⟩:=g2.iface;have FU:=Ac.later g1 Xc hne;have c0:=FU.cell (i:=0) rfl;have c1:=FU.cell (i:=1) rfl;have c2:=FU.cell (i:=2) rfl;have c3:=FU.cell (i:=3) rfl;have c4:=FU.cell (i:=4) rfl;have c5:=FU.cell (i:=5) rfl;have c6:=FU.cell (i:=6) rfl;have f0:=FU.frozen))
  obtain⟨hF,hG⟩:=aed (b0:=.int .i64 0) (b1:=.int .i64 0) (b2:=.int .i64 0) (b3:=.int .i64 0) (b4:=.slice none 0 0) (b5:=.slice none 0 0) (b6:=.slice none 0 0) FU;have hC:=g2.other FU au au hG;refine gu (Ew (p:=2) (u:=3) rfl _ _ w.heap.size 55 _ (0,0) _ ax hF underlying55 rfl ag) rfl ?_;exact⟨((ru.qm xq).step (g1.mono (ak _) (λ_ x=>x)) (λ_ _ x=>x)).step hG (λk hk e=>ae),_,d,hd,rfl,hC⟩
 |ok sh=>
  have K:∀w0,Below w.heap.size w w0->Live B w0 rb l vC vT->CQ w0->Pow w0->wQ w0 a->Calls prog 57 #[.pointer (some ⟨rb,0,none⟩),.slice none 0 0] w0 λq w'=>ru w0.heap.size (qO rb vC vT) w0 w'/\q=.returned .nilIface/\∃s vN vS FT Dq,RI B w' rb s [] vN vS FT Dq/\sh=s.shd:=by
   intro w0 z1 z2 z3 z4 z5;refine(key w0 z1 z2 z3 z4 z5).mono ?_;rintro q w' ⟨h1,h2⟩;refine⟨h1,?_⟩;rcases h2 with⟨v,d,e',k1,k2,k3,k4,_⟩|⟨k0,s',Vj,Vk,FT,Dq,m1,m2,m3,m4,m5,m6⟩
   .rw[DW]at k4;cases k4
   .rw[DW]at m5;cases m5;exact⟨k0,s',Vj,Vk,FT,Dq,m1,rfl⟩
  clear key DW hL uN hPow hE;go_enter func59,ntmps59
  go_upto_region 1 with(fail)
  generalize L9:w.alloc _=w0 at xq Ac hL0 Z5 hP0 hE0⊢;clear L9;have K0:=K w0 xq hL0 Z5 hP0 hE0;have Xc:w.heap.size<w0.heap.size:=Ac.lt;clear K
  go_upto_region 4 with(first|(go_at_call 57;with_reducible refine K0.mono ?_;rintro q w1 ⟨g1,rfl,s,vN,vS,FT,Dq,I,rfl⟩))
  have FU:=Ac.later g1 Xc hne;have c0:=FU.cell (i:=0) rfl;have c1:=FU.cell (i:=1) rfl;have c2:=FU.cell (i:=2) rfl;have c3:=FU.cell (i:=3) rfl;have c4:=FU.cell (i:=4) rfl;have c5:=FU.cell (i:=5) rfl;have c6:=FU.cell (i:=6) rfl;have f0:=FU.frozen;obtain⟨bn,cn,rfl⟩:=uH I.on;obtain⟨bz,cz,rfl⟩:=uH I.os;obtain⟨bc,cc,eC,_⟩:=I.oc.slice;subst eC;have d0:=qf.cell I.rd (i:=0) rfl;have d1:=qf.cell I.rd (i:=1) rfl;have d2:=qf.cell I.rd (i:=2) rfl;have d3:=qf.cell I.rd (i:=3) rfl;have d4:=qf.cell I.rd (i:=4) rfl;have d5:=qf.cell I.rd (i:=5) rfl;have d6:=qf.cell I.rd (i:=6) rfl;simp only[St.rd]at d0 d1 d2 d3 d4 d5 d6;go_wp2;obtain⟨hF,hG⟩:=aed (b0:=.int .i64 (s.k:Int)) (b1:=.int .i64 (s.n:Int)) (b2:=.int .i64 (s.i:Int)) (b3:=.int .i64 (s.c:Int)) (b4:=.slice bn s.ns.length cn) (b5:=.slice bz s.zs.length cz) (b6:=.slice bc s.qy.length cc) FU;refine gu (Ew (p:=2) (u:=3) rfl _ _ w.heap.size 55 _ (0,0) _ ax hF underlying55 rfl ag) rfl ?_;exact⟨((ru.qm xq).step (g1.mono (ak _) (λ_ x=>x)) (λ_ _ x=>x)).step hG (λk hk e=>ae),_,_,_,rfl,yG FU hG I.on au,yG FU hG I.os au,yG FU hG I.oc au⟩
