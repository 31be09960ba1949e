import Derived.Test.YtlghjjennhpjeaaGreatDoorPlD
set_option maxHeartbeats 4000000
set_option maxRecDepth 100000
namespace Go.Proofs.Y
open Go.Proofs.Tryz
open Go.RowKit Go.Deep
structure JK(s:St)(t L:aj):Prop where
 good:∀x,Good s (L++x)
 here:At L s.pl t
 bd:Bd s
 plb:PlB s
 short:s.nx<=3->t.length<=s.sz
 none:s.nx=4->t=[]
theorem JK.fit{s:St}{t L:aj}(h:JK s t L)(h3:s.nx<=3):Fit s:=by
 have hb:=(h.good []).bounds;refine⟨h.bd,h3,λh0=>?_,λh2=>(hb.2.2.2.2 h2).1⟩;rcases hb.2.1 with q|q
 .exact absurd q h0
 .exact⟨ag,ag,ag,ag⟩
theorem At.agD{L t p:aj}{a n:Nat}(h:At L a t)(hp:p=L.drop (a+t.length)):At L a (t++p.take n):=by
 have h1:=h.1;have hl:(p.take n).length<=L.length-(a+t.length):=by rw[hp];simp;omega
 refine⟨awI,λi hi=>?_⟩;rw[bM]at hi;rcases bK i t.length with q|q
 .rw[h.2 i q];simp only[sV,bG];rw[ig q]
 .simp only[sV,bG];rw[ji q,hp,nI];have:i-t.length<n:=by rw[jf]at hi;omega
  rw[ax this,auS,show a+t.length+(i-t.length)=a+i by omega]
theorem JK.next{s s':St}{t L:aj}(h:JK s t L)(h3:s.nx<=3)(hr:y_ s t=.ok s'):JK (tq s' t) [] L/\meas (tq s' t).nx (tq s' t).ln (tq s' t).qC.length<meas s.nx s.ln s.qC.length:=by
 have hG:=λx=>amu (h.good x) ag (h.here.more x) (h.short h3) hr
 have ht:t.length=s.sz:=(hG []).1;have hGo:=λx=>(hG x).2.1
 have hb:=(hGo []).bounds
 have h1:(tq s' t).nx≠0:=by
  show zf s'≠0;unfold zf;split
  .omega
  .split
   .omega
   .split<;>omega
 have hP:=h.plb.next h.bd.m h3 hr ht (λq=>by have:=(h.good []).nx2 q;omega);have hat:=h.here.1
 have uD:(tq s' t).pl=s.pl+t.length:=by show s'.pl+t.length=_;rw[(hG []).2.2.1]
 refine⟨⟨hGo,⟨aJ,λi hi=>qg⟩,?_,hP,λ_=>aA,λ_=>rfl⟩,amv (h.good []) h3 hr ht (hGo [])⟩;rcases hb.2.1 with q|q
 .exact absurd q h1
 .have yf:(tq s' t).qC.length<=(tq s' t).ln:=by
   rcases bK (tq s' t).nx 2 with q2|q2
   .rw[hb.2.2.1 ag];simp
   .exact(hb.2.2.2.2 q2).2
  refine⟨ag,ag,ag,yf,hb.1,?_⟩;obtain⟨p0,p1,p2⟩:=hP;rcases bK (tq s' t).nx 2 with q2|q2
  .have:=p1 ag;omega
  .have:=p2 q2;split at this<;>omega
def ae8(B:Nat)(w:ah)(rb:Nat)(vC vT:ai)(L:aj)(q:Ending)(w':ah):Prop:=
 qG w.heap.size (qQ rb vC vT) w w'/\
 ((∃v d e,d<=2/\q=.returned v/\sF w' d v e.1 e.2/\qN L=.error e/\(∃r',xU w' rb r')/\(e.1≠4->∀x,qN (L++x)=.error e)/\
   (e.1=4->∃s t vN vS DX Df,RI B w' rb s t vN vS DX Df/\JK s t L/\L.length=s.pl+t.length/\∀k,k<w.heap.size->qQ rb DX Df k->qQ rb vC vT k))\/
  (q=.returned .nilIface/\∃s vN vS DX Df,RI B w' rb s [] vN vS DX Df/\JK s [] L/\s.nx=4/\L.length=s.pl/\qN L=.ok s.shd/\∀k,k<w.heap.size->qQ rb DX Df k->qQ rb vC vT k))
def ajk(rb:Nat)(w:ah):Nat:=match w.cell? ⟨rb,10,none⟩,w.cell? ⟨rb,8,none⟩,w.cell? ⟨rb,6,none⟩with
 |some (.int _ nx),some (.int _ ln),some (.slice _ n _)=>meas nx.toNat ln.toNat n
 |_,_,_=>0
theorem abn{B rb:Nat}{w:ah}{s:St}{t:aj}{vN vS vC vT:ai}(I:RI B w rb s t vN vS vC vT):ajk rb w=meas s.nx s.ln s.qC.length:=by obtain⟨bc,cc,eC,_⟩:=I.oc.slice;have c6:=ql.cell I.rd (i:=6) rfl;have c8:=ql.cell I.rd (i:=8) rfl;have Xj:=ql.cell I.rd (i:=10) rfl;simp only[St.rd]at c6 c8 Xj;unfold ajk;rw[c6,c8,Xj,eC];simp
theorem qG.step{w w1 w2:ah}{S0 S1:Nat->Prop}(h1:qG w.heap.size S0 w w1)(h2:qG w1.heap.size S1 w1 w2)(h:∀k,k<w.heap.size->S1 k->S0 k):qG w.heap.size S0 w w2:=
 ⟨h2.os.trans h1.os,h2.tape.trans h1.tape,h2.output.trans h1.output,bF h1.size h2.size,λk hk hs=>(h2.block k (bH hk h1.size) (λx=>hs (h k hk x))).trans (h1.block k hk hs)⟩
theorem RI.mine{B rb:Nat}{w:ah}{s:St}{t:aj}{vN vS vC vT:ai}(I:RI B w rb s t vN vS vC vT)(hr:B<=rb):∀k,qQ rb vC vT k->B<=k:=by
 intro k h;rcases h with h|h|h
 .omega
 .exact(kH I.oc k h).1
 .exact(kH I.ot k h).1
theorem LQ.but{w w':ah}{B:Nat}{S:Nat->Prop}(h:LQ w)(hb:qG B S w w')(hB:3<B)(hS:¬S 3):LQ w':=
 ⟨bH h.1 hb.size,λi hi=>(hb.cell (p:=⟨3,i,none⟩) hB hS).trans (h.2 i hi)⟩
theorem qQ.fill{rb H k:Nat}{vC vT v':ai}(hk:v'.ownBlock=vT.ownBlock\/∃g,v'.ownBlock=some g/\H<=g)(qB:k<H)(h:qQ rb vC v' k):qQ rb vC vT k:=by
 rcases h with h|h|h
 .exact .inl h
 .exact axk
 .rcases hk with e|⟨g,e,hg⟩
  .exact .inr (.inr (e▸h))
  .rw[e]at h;cases h;omega
theorem qQ.qC{rb H k:Nat}{vC vT v':ai}(hk:v'.ownBlock=vC.ownBlock\/∃g,v'.ownBlock=some g/\H<=g)(qB:k<H)(h:qQ rb v' vT k):qQ rb vC vT k:=by
 rcases h with h|h|h
 .exact .inl h
 .rcases hk with e|⟨g,e,hg⟩
  .exact .inr (.inl (e▸h))
  .rw[e]at h;cases h;omega
 .exact .inr (.inr h)
theorem Pt.len{w:ah}{M:Nat->Prop}{v:ai}{p:aj}(h:Pt w M v p):∃ba c,v=.slice ba p.length c:=by
 rcases h with⟨rfl,rfl⟩|⟨ad,c,rfl,_⟩
 .exact⟨_,_,rfl⟩
 .exact⟨_,_,rfl⟩
section
variable (B rb:Nat)(L:aj)(s0:St)(t0:aj)(vN0 vS0 vC0 vT0 vp:ai)(w:ah)(I0:RI B w rb s0 t0 vN0 vS0 vC0 vT0)(hS0:JK s0 t0 L)(hP0:Pt w (qQ rb vC0 vT0) vp (L.drop (s0.pl+t0.length)))(hL:L.length<=4611686018427387904)(uX:LQ w)(hPow:Pow w)(Jb:5<=B)(Sz:B<=rb)
include I0 hS0 hP0 hL uX hPow Jb Sz in
theorem adt:Calls prog 66 #[.pointer (some ⟨rb,0,none⟩),vp] w λq w'=>ae8 B w rb vC0 vT0 L q w':=by
 go_enter func66,ntmps66;go_wp2
 go_loopw [1] (λv wr=>∃(s:St)(t p:aj)(vN vS vC vT:ai),RI B wr rb s t vN vS vC vT/\JK s t L/\Hid (L.drop (s.pl+t.length)=p)/\Pt wr (qQ rb vC vT) v p/\qG w.heap.size (qQ rb vC0 vT0) w wr/\(∀k,k<w.heap.size->qQ rb vC vT k->qQ rb vC0 vT0 k)) (λ_ wr=>ajk rb wr)
 case atStart=>exact⟨s0,t0,_,vN0,vS0,vC0,vT0,I0,hS0,rfl,hP0,qG.refl _ _ _,λ_ _ h=>h⟩
 case round=>
  obtain⟨s,t,p,vN,vS,vC,vT,I,hS,EP,hP,Jh,hM⟩:=hrel;obtain⟨ba,cp,ev⟩:=hP.len;subst ev;have Xj:=ql.cell I.rd (i:=10) rfl;simp only[St.rd]at Xj;have hbd:=hS.bd;have hT1:LQ wr:=uX.but Jh (by have:=I0.size;omega) (λh=>by have:=I0.mine Sz 3 h;omega);have hP1:Pow wr:=hPow.but Jh (λk hk=>⟨by have:=I0.size;omega,λh=>by have:=I0.mine Sz k h;omega⟩);have atN:5<=wr.heap.size:=by have:=I.size;omega
  by_cases q4:s.nx=4
  .obtain rfl:=hS.none q4;have hE:=λx=>ajl (hS.good x) q4
   have akX:p.length=L.length-s.pl:=by rw[<-EP.out,lY];rfl
   have hat:s.pl<=L.length:=by have:=hS.here.1;simpa using this
   have TT:=ql.cell I.rd (i:=11) rfl;simp only[St.rd]at TT;rw[q4]at Xj;obtain⟨pl,Wq⟩:∃pl,s.pl=pl:=⟨_,rfl⟩;rw[Wq]at TT;by_cases q0:0<p.length
   .have HE:Hid (∀x,qN (L++x)=.error (9,pl)):=λx=>by
     rw[hE x,au awI,Wq]
    clear hE hP EP akX hat Wq hS
    go_wp2_with(first|(go_at_call 49;refine(AA _ _ 9 pl aF aF _).mono ?_;rintro q w2 ⟨v,rfl,g1,g2⟩)|(go_at_call 24;refine(yI _ 0 _ 9 pl _ (by exact g1)).mono ?_;rintro q w3 ⟨v3,rfl,g3,g4⟩))
    go_ret;have uQ:Below wr.heap.size wr w3:=g2.trans (g4.mono g2.size);refine⟨Jh.trans (.qw (uQ.mono Jh.size)),.inl ⟨_,1,(9,pl),ag,rfl,g3,?_,⟨_,(I.below uQ).rd⟩,λ_=>HE.out,λh=>gp⟩⟩;have:=HE.out [];rwa[dX]at this
   .have hLp:L.length=pl:=ag
    have HE:Hid (qN L=.ok s.shd):=by have:=hE [];rw[dX,ax ag]at this;exact this
    have HL:Hid (L.length=s.pl):=by show _=_;rw[Wq];exact hLp
    clear hE hP EP akX hat Wq hLp;go_wp2;go_ret;exact⟨Jh,.inr ⟨rfl,s,vN,vS,vC,vT,I,hS,q4,HL.out,HE.out,hM⟩⟩
  .have h3:s.nx<=3:=by have:=hbd.nx;omega
   have q4':((s.nx:Int)==4)=false:=aJ;have atO:((s.nx:Int) != 4)=true:=aJ;obtain⟨t',et⟩:∃t',t++p.take (s.sz-t.length)=t':=⟨_,rfl⟩;have akX:p.length=L.length-(s.pl+t.length):=by rw[<-EP.out,lY]
   have hat:=hS.here.1;have hA':At L s.pl t':=by rw[<-et];exact hS.here.agD EP.out.symm
   have Z8:=hS.short h3;have qB:t'.length<=s.sz:=by rw[<-et,bM,jf];omega
   have LW:t'.length<s.sz->L.length=s.pl+t'.length:=by intro h;rw[<-et,bM,jf]at h⊢;omega
   have akY:p.drop (s.sz-t.length)=L.drop (s.pl+t'.length):=by
    rw[<-EP.out,pI];rcases bK t'.length s.sz with q|q
    .have:=LW q;rw[<-et,bM,jf]at q;rw[pG ag,pG ag]
    .rw[show s.pl+t.length+(s.sz-t.length)=s.pl+t'.length by omega]
   have IJ:JK s t' L:=⟨hS.good,hA',hbd,hS.plb,λ_=>qB,λh=>absurd h q4⟩;have KF:=ajm B rb s t p vN vS vC vT _ hbd h3 Z8 ag wr I hP;unfold U9 at KF;rw[et,akY]at KF;obtain⟨p',ep'⟩:∃p',L.drop (s.pl+t'.length)=p':=⟨_,rfl⟩;rw[ep']at KF;have EP':Hid (L.drop (s.pl+t'.length)=p'):=ep'
   have HRE:Hid (∀e,y_ s t'=.error e->qN L=.error e/\(e.1≠4->∀x,qN (L++x)=.error e)/\(e.1=4->L.length=s.pl+t'.length)):=λe he=>by
    have h4:e.1=4->L.length=s.pl+t'.length:=λh=>LW (aeu he h)
    refine⟨?_,λhne x=>abo (IJ.good x) q4 (hA'.more x) qB he (λh=>absurd h hne),h4⟩;have:=abo (IJ.good []) q4 (hA'.more []) qB he (λh=>by rw[dX];exact h4 h);rwa[dX]at this
   have HM:Hid (∀k,k<w.heap.size->qQ rb vC vT k->qQ rb vC0 vT0 k):=hM;have hF:=IJ.fit h3;cases hR:y_ s t' with
   |error e=>
    obtain⟨z1,z2,z3⟩:=HRE.out e hR;clear et akY LW hM hP HRE hat ep' akX Z8
    go_wp2_with(first|(go_at_call 88;with_reducible refine KF.mono ?_;rintro q w1 ⟨v1,vT1,rfl,g1,g2,g3,g4⟩;have VY:LQ w1:=hT1.but g3 ag (λh=>by have:=I.mine Sz 3 h;omega);have V6:Pow w1:=hP1.but g3 (λk hk=>⟨ag,λh=>by have:=I.mine Sz k h;omega⟩);have K:=XO B rb s t' vN vS vC vT1 hF qB w1 g2 VY V6 (by have:=g3.size;omega);unfold uq at K;rw[hR]at K;simp only at K;clear hR)|(go_at_call 89;with_reducible refine K.mono ?_;rintro q w2 ⟨k1,⟨v2,d,hd,rfl,k2⟩,k3,k4⟩;obtain⟨ty,x,rfl⟩:=k2.iface))
    go_ret;have hM1:∀k,k<w.heap.size->qQ rb vC vT1 k->qQ rb vC0 vT0 k:=λk hk hm=>HM.out k hk (qQ.fill g4 (bH hk Jh.size) hm)
    have zJ:qG w.heap.size (qQ rb vC0 vT0) w w2:=(Jh.step g3 HM.out).step k1 hM1;exact⟨zJ,.inl ⟨_,d,e,hd,rfl,k2,z1,k3,z2,λh=>⟨s,t',vN,vS,vC,vT1,k4 h,IJ,z3 h,hM1⟩⟩⟩
   |ok s'=>
    obtain⟨Jc,QM⟩:=IJ.next h3 hR;obtain⟨e1,e2,_,_,_⟩:=Zp hR;have rq:Bd s':=⟨Jc.bd.m,Jc.bd.c,Jc.bd.ln,Jc.bd.qC,ag,by rw[e2];exact hbd.pl⟩;have ht4:t'.length<=400000:=bF qB (St.XP hbd);have HMS:Hid _:=QM;clear et akY LW hM hP HRE hat QM ep' akX Z8
    go_wp2_with(first|(go_at_call 88;with_reducible refine KF.mono ?_;rintro q w1 ⟨v1,vT1,rfl,g1,g2,g3,g4⟩;have VY:LQ w1:=hT1.but g3 ag (λh=>by have:=I.mine Sz 3 h;omega);have V6:Pow w1:=hP1.but g3 (λk hk=>⟨ag,λh=>by have:=I.mine Sz k h;omega⟩);have K:=XO B rb s t' vN vS vC vT1 hF qB w1 g2 VY V6 (by have:=g3.size;omega);unfold uq at K;rw[hR]at K;simp only at K;clear hR)|(go_at_call 89;with_reducible refine K.mono ?_;rintro q w2 ⟨k1,rfl,vN2,vS2,vC2,k2,k3⟩;have KM:=adu B rb s' t' vN2 vS2 vC2 vT1 rq ht4 w2 k2;unfold abp at KM)|(go_at_call 90;with_reducible refine KM.mono ?_;rintro q w3 ⟨rfl,vT3,m1,m2,m3⟩))
    have hM1:∀k,k<w.heap.size->qQ rb vC vT1 k->qQ rb vC0 vT0 k:=λk hk hm=>HM.out k hk (qQ.fill g4 (bH hk Jh.size) hm)
    have hP3:Pt w2 (qQ rb vC2 vT1) v1 p':=g1.later k1 (λ_ h=>h) (λk hk hm=>qQ.qC k3 hk hm)
    have hP4:Pt w3 (qQ rb vC2 vT3) v1 p':=hP3.later m2 (λ_ h=>.inl h) (λk _ hm=>by
     rcases hm with h|h|h
     .exact .inl h
     .exact axk
     .exact .inr (.inr (m3▸h)))
    have F8:qG w.heap.size (qQ rb vC0 vT0) w w3:=((Jh.step g3 HM.out).step k1 hM1).step m2 (λk _ h=>.inl h);refine⟨⟨tq s' t',[],p',vN2,vS2,vC2,vT3,m1,Jc,?_,hP4,F8,λk hk hm=>?_⟩,?_⟩
    .show _=_;rw[<-EP'.out,(Zq s' t').2.2.2,e2];rfl
    .refine hM1 k hk (qQ.qC k3 (bH hk (bF Jh.size g3.size)) ?_);rcases hm with h|h|h
     .exact .inl h
     .exact axk
     .exact .inr (.inr (m3▸h))
    .rw[abn m1,abn I];exact HMS.out
end
theorem JK.more{s:St}{t L:aj}(h:JK s t L)(p:aj):JK s t (L++p):=
 ⟨λx=>by rw[kX];exact h.good (p++x),h.here.more p,h.bd,h.plb,h.short,h.none⟩
def adv(v:ai):Rd:=⟨0,0,0,0,.slice none 0 0,.slice none 0 0,.slice none 0 0,0,0,0,0,0,.slice none 0 0,v⟩
def Live(B:Nat)(w:ah)(rb:Nat)(l:aj)(vC vT:ai):Prop:=∃s t vN vS,RI B w rb s t vN vS vC vT/\JK s t l/\l.length=s.pl+t.length
def akZ(w:ah)(rb:Nat)(l:aj):Prop:=∃v d e,d<=2/\xU w rb (adv v)/\sF w d v e.1 e.2/\e.1≠4/\∀x,qN (l++x)=.error e
def U_(B:Nat)(w:ah)(rb:Nat)(vC vT:ai)(L:aj)(q:Ending)(w':ah):Prop:=
 qG w.heap.size (qQ rb vC vT) w w'/\
 ((∃v d e,d<=2/\q=.returned v/\sF w' d v e.1 e.2/\qN L=.error e/\(e.1≠4->akZ w' rb L)/\(e.1=4->∃DX Df,Live B w' rb L DX Df/\∀k,k<w.heap.size->qQ rb DX Df k->qQ rb vC vT k))\/
  (q=.returned .nilIface/\∃s vN vS DX Df,RI B w' rb s [] vN vS DX Df/\JK s [] L/\s.nx=4/\L.length=s.pl/\qN L=.ok s.shd/\∀k,k<w.heap.size->qQ rb DX Df k->qQ rb vC vT k))
theorem wU.but{w w':ah}{a:Addr}{B:Nat}{S:Nat->Prop}(h:wU w a)(hb:qG B S w w')(hB:0<B)(hS:¬S 0):wU w' a:=(hb.cell (p:=⟨0,0,none⟩) hB hS).trans h
theorem ak0{w:ah}{rb b:Nat}{r:Rd}{cs:aK}{ty:aG}(hr:xU w rb r)(h:ql w b cs ty)(hty:ty≠102):b≠rb:=by rintro rfl;have h2:w.heap[b]?=some (.cells r.cells.toArray 102 (0,0)):=hr;have h3:w.heap[b]?=some (.cells cs.toArray ty (0,0)):=h;rw[h2]at h3;injection h3 with h3;injection h3 with _ h4;exact hty h4.symm
theorem sF.turn{w w':ah}{rb:Nat}{r:Rd}(hr:xU w rb r)(hb:qG w.heap.size (· =rb) w w'):∀{d:Nat}{v:ai}{e p:Nat},sF w d v e p->sF w' d v e p
 |0,_,_,_,⟨b,e1,h1⟩=>⟨b,e1,h1.later hb h1.lt (ak0 hr h1 aB)⟩
 |_+1,_,_,_,⟨b,s,c,e1,h1,h2⟩=>⟨b,s,c,e1,h1.later hb h1.lt (ak0 hr h1 aB),sF.turn hr hb h2⟩
section
variable (B rb:Nat)(l p:aj)(vC vT vp:ai)(w:ah)(hL:Live B w rb l vC vT)(hP:Pt w (qQ rb vC vT) vp p)(hlen:l.length+p.length<=4611686018427387904)(uX:LQ w)(hPow:Pow w)(Jb:5<=B)(Sz:B<=rb)(a:Addr)(hE:wU w a)
include hL hP hlen uX hPow Jb Sz hE in
theorem XQ:Calls prog 42 #[.pointer (some ⟨rb,0,none⟩),vp] w λq w'=>U_ B w rb vC vT (l++p) q w':=by
 obtain⟨s,t,vN,vS,I,hS,hl⟩:=hL;have KR:=adt B rb (l++p) s t vN vS vC vT vp w I (hS.more p) (by rw[<-hl,List.drop_left];exact hP) (by rw[bM];exact hlen) uX hPow Jb Sz;unfold ae8 at KR;have c13:=ql.cell I.rd (i:=13) rfl;simp only[St.rd]at c13;have hsz:=I.size;have ae9:=I.mine Sz;unfold U_;cases Bh:qN (l++p)with
 |error e=>
  have K:Calls prog 66 #[.pointer (some ⟨rb,0,none⟩),vp] w λq w'=>qG w.heap.size (qQ rb vC vT) w w'/\∃v d,d<=2/\q=.returned v/\sF w' d v e.1 e.2/\(∃r',xU w' rb r')/\(e.1≠4->∀x,qN (l++p++x)=.error e)/\
    (e.1=4->∃DX Df,Live B w' rb (l++p) DX Df/\∀k,k<w.heap.size->qQ rb DX Df k->qQ rb vC vT k):=by
   refine KR.mono ?_;rintro q w' ⟨h1,h2⟩;refine⟨h1,?_⟩;rcases h2 with⟨v,d,e',k1,k2,k3,k4,k5,k6,k7⟩|⟨_,s',_,_,_,_,_,_,_,_,k4,_⟩
   .rw[Bh]at k4;cases k4;refine⟨v,d,k1,k2,k3,k5,k6,λh=>?_⟩;obtain⟨s',t',OT,OU,DX,Df,m1,m2,m3,m4⟩:=k7 h;exact⟨DX,Df,⟨s',t',OT,OU,m1,m2,m3⟩,m4⟩
   .rw[Bh]at k4;cases k4
  have ajn:∀w',qG w.heap.size (qQ rb vC vT) w w'->wU w' a:=λw' h=>hE.but h ag (λx=>by have:=ae9 0 x;omega)
  by_cases q4:e.1=4
  .have HQ:Hid (e.1=4):=q4;clear KR Bh ae9 hP uX hPow hS;go_enter func42,ntmps42
   go_upto_region 4 with(first|(go_at_call 66;with_reducible refine K.mono ?_;rintro q w1 ⟨g1,v,d,hd,rfl,g2,g3,g4,g5⟩))
   have hE1:=ajn w1 g1;have KI:=O1 d hd v a e.1 e.2 w1 g2 hE1;rw[gV q4]at KI;obtain⟨ty,x,rfl⟩:=g2.iface;have c1:w1.cell? ⟨0,0,none⟩=_:=hE1
   go_wp2_with(first|(go_at_call 43;with_reducible refine KI.mono ?_;rintro q w2 ⟨rfl,xI⟩;obtain rfl:=xI.symm))
   go_ret;exact⟨g1,.inl ⟨_,d,e,hd,rfl,g2,rfl,λh=>absurd q4 h,λ_=>g5 q4⟩⟩
  .clear KR Bh ae9 hP uX hPow hS;go_enter func42,ntmps42
   go_upto_region 4 with(first|(go_at_call 66;with_reducible refine K.mono ?_;rintro q w1 ⟨g1,v,d,hd,rfl,g2,g3,g4,g5⟩))
   have hE1:=ajn w1 g1;have KI:=O1 d hd v a e.1 e.2 w1 g2 hE1;rw[dY q4]at KI;obtain⟨ty,x,rfl⟩:=g2.iface;have ce:w1.cell? ⟨0,0,none⟩=_:=hE1;clear c13;obtain⟨r',hr⟩:=g3;have c0:=ql.cell hr (i:=0) rfl;have c1:=ql.cell hr (i:=1) rfl;have c2:=ql.cell hr (i:=2) rfl;have c3:=ql.cell hr (i:=3) rfl;have c4:=ql.cell hr (i:=4) rfl;have c5:=ql.cell hr (i:=5) rfl;have c6:=ql.cell hr (i:=6) rfl;have c7:=ql.cell hr (i:=7) rfl;have c8:=ql.cell hr (i:=8) rfl;have c9:=ql.cell hr (i:=9) rfl;have Xj:=ql.cell hr (i:=10) rfl;have TT:=ql.cell hr (i:=11) rfl;have Z4:=ql.cell hr (i:=12) rfl;have c13:=ql.cell hr (i:=13) rfl;have f0:=ql.frozen hr;have HR:xU _ rb (adv (.iface ty x)):=(((((((((((((ql.set hr 0 (.int .i64 0)).set 1 (.int .i64 0)).set 2 (.int .i64 0)).set 3 (.int .i64 0)).set 4 (.slice none 0 0)).set 5 (.slice none 0 0)).set 6 (.slice none 0 0)).set 7 (.int .i64 0)).set 8 (.int .i64 0)).set 9 (.int .i64 0)).set 10 (.int .i64 0)).set 11 (.int .i64 0)).set 12 (.slice none 0 0)).set 13 (.iface ty x);have yQ:qG w1.heap.size (· =rb) w1 _:=((((((((((((((qG.refl w1.heap.size (· =rb) w1).setCell (p:=⟨rb,0,none⟩) (.inr rfl) (.int .i64 0)).setCell (p:=⟨rb,1,none⟩) (.inr rfl) (.int .i64 0)).setCell (p:=⟨rb,2,none⟩) (.inr rfl) (.int .i64 0)).setCell (p:=⟨rb,3,none⟩) (.inr rfl) (.int .i64 0)).setCell (p:=⟨rb,4,none⟩) (.inr rfl) (.slice none 0 0)).setCell (p:=⟨rb,5,none⟩) (.inr rfl) (.slice none 0 0)).setCell (p:=⟨rb,6,none⟩) (.inr rfl) (.slice none 0 0)).setCell (p:=⟨rb,7,none⟩) (.inr rfl) (.int .i64 0)).setCell (p:=⟨rb,8,none⟩) (.inr rfl) (.int .i64 0)).setCell (p:=⟨rb,9,none⟩) (.inr rfl) (.int .i64 0)).setCell (p:=⟨rb,10,none⟩) (.inr rfl) (.int .i64 0)).setCell (p:=⟨rb,11,none⟩) (.inr rfl) (.int .i64 0)).setCell (p:=⟨rb,12,none⟩) (.inr rfl) (.slice none 0 0)).setCell (p:=⟨rb,13,none⟩) (.inr rfl) (.iface ty x);have hC1:=g2.turn hr yQ
   go_wp2_with(first|(go_at_call 43;with_reducible refine KI.mono ?_;rintro q w2 ⟨rfl,xI⟩;obtain rfl:=xI.symm))
   go_ret;exact⟨g1.step yQ (λk _ h=>.inl h),.inl ⟨_,d,e,hd,rfl,hC1,rfl,λ_=>⟨_,d,e,hd,HR,hC1,q4,g4 q4⟩,λh=>absurd h q4⟩⟩
 |ok sh=>
  have K:Calls prog 66 #[.pointer (some ⟨rb,0,none⟩),vp] w λq w'=>qG w.heap.size (qQ rb vC vT) w w'/\q=.returned .nilIface/\∃s vN vS DX Df,RI B w' rb s [] vN vS DX Df/\JK s [] (l++p)/\s.nx=4/\(l++p).length=s.pl/\Except.ok sh=(Except.ok s.shd:Except (Nat×Nat) vZ)/\∀k,k<w.heap.size->qQ rb DX Df k->qQ rb vC vT k:=by
   refine KR.mono ?_;rintro q w' ⟨h1,h2⟩;refine⟨h1,?_⟩;rcases h2 with⟨v,d,e',k1,k2,k3,k4,k5,k6,k7⟩|⟨k0,s',OT,OU,DX,Df,m1,m2,m3,m4,m5,m6⟩
   .rw[Bh]at k4;cases k4
   .rw[Bh]at m5;exact⟨k0,s',OT,OU,DX,Df,m1,m2,m3,m4,m5,m6⟩
  clear KR Bh ae9 hP uX hPow hS;go_enter func42,ntmps42
  go_wp2_with(first|(go_at_call 66;with_reducible refine K.mono ?_;rintro q w1 ⟨g1,rfl,g2⟩))
  go_ret;exact⟨g1,.inr ⟨rfl,g2⟩⟩
theorem XR(hD:akZ w rb l):Calls prog 42 #[.pointer (some ⟨rb,0,none⟩),vp] w λq w'=>w'=w/\∃v d e,d<=2/\q=.returned v/\sF w d v e.1 e.2/\e.1≠4/\∀x,qN (l++x)=.error e:=by obtain⟨v,d,e,hd,hR,hC,h4,hE⟩:=hD;have c13:=ql.cell hR (i:=13) rfl;obtain⟨ty,x,rfl⟩:=hC.iface;simp only[adv]at c13;go_enter func42,ntmps42;go_wp2;go_ret;exact⟨rfl,_,d,e,hd,rfl,hC,h4,hE⟩
end
def Ll(B:Nat)(w:ah)(l:aj)(S:Nat->Prop)(q:Ending)(w':ah):Prop:=
 qG w.heap.size S w w'/\match qN l with
 | .error e=>∃v d,d<=2/\q=.returned (.tuple #[Bq,v])/\sF w' d v e.1 e.2
 | .ok s=>∃vN vS vC,q=.returned (.tuple #[.agg (sG s.k s.n s.i s.c vN vS vC).toArray,.nilIface])/\
   w'.ownsRow B 9 1 vN s.names.length (zC s.names)/\w'.ownsRow B 3 1 vS s.sizes.length (uH s.sizes)/\w'.ownsRow B 5 1 vC s.qC.length (rP s.qC)
theorem Eu{P:aP}{fn:Func}{p u:Tmp}{ty:aG}(h:fn.results=#[.cell p ty,.tmp u])(tmps:aH)(w:ah)(g:Nat)(et:aG)(cs:aH)(fr:Nat×Nat)(d:TypeDesc)
  (hp:tmps.getD p undef=.pointer (some ⟨g,0,none⟩)) (hg:w.heap[g]?=some (.cells cs et fr))
  (hu:P.underlying ty=some d) (hd:(match d with| .struct _| .array _ _=>true|_=>false)=true) (hi:(P.info? ty).map (·.size)=some cs.size):
  (results fn tmps).run P w=.ok (.tuple #[.agg cs,tmps.getD u undef]) w:=by
 have hp':tmps[p]?.getD undef=.pointer (some ⟨g,0,none⟩):=by simpa using hp
 exact axZ
theorem Live.below{B:Nat}{w w':ah}{rb:Nat}{l:aj}{vC vT:ai}(h:Live B w rb l vC vT)(hb:Below w.heap.size w w'):Live B w' rb l vC vT:=by obtain⟨s,t,vN,vS,I,hS,hl⟩:=h;exact⟨s,t,vN,vS,I.below hb,hS,hl⟩
theorem Live.lt{B:Nat}{w:ah}{rb:Nat}{l:aj}{vC vT:ai}(h:Live B w rb l vC vT):B<=w.heap.size/\∀k,qQ rb vC vT k->k<w.heap.size:=by
 obtain⟨s,t,vN,vS,I,hS,hl⟩:=h;refine⟨I.size,λk hk=>?_⟩;rcases hk with h|h|h
 .rw[h];exact ql.lt I.rd
 .exact(kH I.oc k h).2
 .exact(kH I.ot k h).2
theorem Pow.belows{w w':ah}(h:Pow w)(hb:Below w.heap.size w w')(h16:5<=w.heap.size):Pow w':=h.but (S:=λ_=>False) (.qw hb) (λk hk=>⟨ag,id⟩)
theorem wU.belows{w w':ah}{a:Addr}(h:wU w a)(hb:Below w.heap.size w w'):wU w' a:=(hb.cell (p:=⟨0,0,none⟩) (rY h)).trans h
theorem Lm{w:ah}{b b':Nat}{cs cs':aK}{ty ty':aG}(h:ql w b cs ty)(h':ql w b' cs' ty')(hty:ty≠ty'):b≠b':=by rintro rfl;have h2:w.heap[b]?=some (.cells cs.toArray ty (0,0)):=h;have h3:w.heap[b]?=some (.cells cs'.toArray ty' (0,0)):=h';rw[h2]at h3;injection h3 with h3;injection h3 with _ h4;exact hty h4
theorem sF.other{w w':ah}{b0:Nat}{cs:aK}{ty:aG}(hr:ql w b0 cs ty)(t1:ty≠78)(t2:ty≠118)(hb:qG w.heap.size (· =b0) w w'):∀{d:Nat}{v:ai}{e p:Nat},sF w d v e p->sF w' d v e p
 |0,_,_,_,⟨b,e1,h1⟩=>⟨b,e1,h1.later hb h1.lt (Lm h1 hr (λe=>t1 e.symm))⟩
 |_+1,_,_,_,⟨b,s,c,e1,h1,h2⟩=>⟨b,s,c,e1,h1.later hb h1.lt (Lm h1 hr (λe=>t2 e.symm)),sF.other hr t1 t2 hb h2⟩
theorem yJ{w w':ah}{B b0 e n:Nat}{cs:aK}{ty:aG}{v:ai}{xs:aK}(hr:ql w b0 cs ty)(hb:qG w.heap.size (· =b0) w w')(h:w.ownsRow B e 1 v n xs)(he:e≠ty):w'.ownsRow B e 1 v n xs:=
 qY h (λg hg=>hb.block g (h.lt g hg).2 (λe1=>by obtain⟨cur,hh⟩:=Lp h hg;have h2:w.heap[b0]?=some (.cells cs.toArray ty (0,0)):=hr;subst e1;rw[hh]at h2;injection h2 with h2;injection h2 with _ h4;exact he h4))
theorem adw{w:ah}{b:Nat}{a0 a1 a2 a3 a4 a5 a6 b0 b1 b2 b3 b4 b5 b6:ai}{ty:aG}(h:ql w b [a0,a1,a2,a3,a4,a5,a6] ty):
  ql (((((((w.setCell ⟨b,0,none⟩ b0).setCell ⟨b,1,none⟩ b1).setCell ⟨b,2,none⟩ b2).setCell ⟨b,3,none⟩ b3).setCell ⟨b,4,none⟩ b4).setCell ⟨b,5,none⟩ b5).setCell ⟨b,6,none⟩ b6) b [b0,b1,b2,b3,b4,b5,b6] ty/\
  qG w.heap.size (· =b) w (((((((w.setCell ⟨b,0,none⟩ b0).setCell ⟨b,1,none⟩ b1).setCell ⟨b,2,none⟩ b2).setCell ⟨b,3,none⟩ b3).setCell ⟨b,4,none⟩ b4).setCell ⟨b,5,none⟩ b5).setCell ⟨b,6,none⟩ b6):=
 ⟨((((((h.set 0 b0).set 1 b1).set 2 b2).set 3 b3).set 4 b4).set 5 b5).set 6 b6,
  (((((((qG.refl w.heap.size (· =b) w).setCell (p:=⟨b,0,none⟩) (.inr rfl) b0).setCell (p:=⟨b,1,none⟩) (.inr rfl) b1).setCell (p:=⟨b,2,none⟩) (.inr rfl) b2).setCell (p:=⟨b,3,none⟩) (.inr rfl) b3).setCell (p:=⟨b,4,none⟩) (.inr rfl) b4).setCell (p:=⟨b,5,none⟩) (.inr rfl) b5).setCell (p:=⟨b,6,none⟩) (.inr rfl) b6⟩
def zD:aK:=sG 0 0 0 0 (.slice none 0 0) (.slice none 0 0) (.slice none 0 0)
section
variable (B rb:Nat)(l:aj)(vC vT:ai)(w:ah)(hlen:l.length<=4611686018427387904)(uX:LQ w)(hPow:Pow w)(Jb:5<=B)(Sz:B<=rb)(a:Addr)(hE:wU w a)
include hlen uX hPow Jb Sz hE in
theorem ajo(hL:Live B w rb l vC vT):Calls prog 44 #[.pointer (some ⟨rb,0,none⟩)] w λq w'=>Ll B w l (qQ rb vC vT) q w':=by
 have xH:=(aO w.heap.size w).alloc (ay _) (.cells zD.toArray 41);have zh:ql (w.alloc (.cells zD.toArray 41)) w.heap.size zD 41:=ql.made w _ _;have qB:=hL.lt;have h16:5<=w.heap.size:=by have:=qB.1;omega
 have hL0:=hL.below xH;have Z9:=uX.below xH ag;have hP0:=hPow.belows xH h16;have hE0:=hE.belows xH;have hne:¬qQ rb vC vT w.heap.size:=λh=>by have:=qB.2 _ h;omega
 unfold zD sG at xH zh hL0 Z9 hP0 hE0;unfold Ll
 have key:∀w0,Below w.heap.size w w0->Live B w0 rb l vC vT->LQ w0->Pow w0->wU w0 a->Calls prog 42 #[.pointer (some ⟨rb,0,none⟩),.slice none 0 0] w0 λq w'=>U_ B w0 rb vC vT l q w':=by intro w0 _ hL hT hP hE;have KT:=XQ B rb l [] vC vT (.slice none 0 0) w0 hL (.inl ⟨rfl,rfl⟩) au4 hT hP Jb Sz a hE;rwa[dX]at KT
 cases Bh:qN l with
 |error e=>
  have K:∀w0,Below w.heap.size w w0->Live B w0 rb l vC vT->LQ w0->Pow w0->wU w0 a->Calls prog 42 #[.pointer (some ⟨rb,0,none⟩),.slice none 0 0] w0 λq w'=>qG w0.heap.size (qQ rb vC vT) w0 w'/\∃v d,d<=2/\q=.returned v/\sF w' d v e.1 e.2:=by
   intro w0 z1 z2 z3 z4 z5;refine(key w0 z1 z2 z3 z4 z5).mono ?_;rintro q w' ⟨h1,h2⟩;refine⟨h1,?_⟩;rcases h2 with⟨v,d,e',k1,k2,k3,k4,_⟩|⟨_,s',_,_,_,_,_,_,_,_,k4,_⟩
   .rw[Bh]at k4;cases k4;exact⟨v,d,k1,k2,k3⟩
   .rw[Bh]at k4;cases k4
  clear key Bh hL uX hPow hE;go_enter func44,ntmps44
  go_upto_region 1 with(fail)
  generalize Og:w.alloc _=w0 at xH zh hL0 Z9 hP0 hE0⊢;clear Og;have K0:=K w0 xH hL0 Z9 hP0 hE0;have aev:w.heap.size<w0.heap.size:=zh.lt;clear K
  go_wp2_with(first|(go_at_call 42;with_reducible refine K0.mono ?_;rintro q w1 ⟨g1,v,d,hd,rfl,g2⟩;obtain⟨ty,x,rfl⟩:=g2.iface;have D5:=zh.later g1 aev hne;have c0:=D5.cell (i:=0) rfl;have c1:=D5.cell (i:=1) rfl;have c2:=D5.cell (i:=2) rfl;have c3:=D5.cell (i:=3) rfl;have c4:=D5.cell (i:=4) rfl;have c5:=D5.cell (i:=5) rfl;have c6:=D5.cell (i:=6) rfl;have f0:=D5.frozen))
  obtain⟨hF,hG⟩:=adw (b0:=.int .i64 0) (b1:=.int .i64 0) (b2:=.int .i64 0) (b3:=.int .i64 0) (b4:=.slice none 0 0) (b5:=.slice none 0 0) (b6:=.slice none 0 0) D5;have hC:=g2.other D5 aB aB hG;refine dS (Eu (p:=2) (u:=3) rfl _ _ w.heap.size 41 _ (0,0) _ aF hF underlying41 rfl ak) rfl ?_;exact⟨((qG.qw xH).step (g1.mono (ay _) (λ_ x=>x)) (λ_ _ x=>x)).step hG (λk hk e=>ag),_,d,hd,rfl,hC⟩
 |ok sh=>
  have K:∀w0,Below w.heap.size w w0->Live B w0 rb l vC vT->LQ w0->Pow w0->wU w0 a->Calls prog 42 #[.pointer (some ⟨rb,0,none⟩),.slice none 0 0] w0 λq w'=>qG w0.heap.size (qQ rb vC vT) w0 w'/\q=.returned .nilIface/\∃s vN vS DX Df,RI B w' rb s [] vN vS DX Df/\sh=s.shd:=by
   intro w0 z1 z2 z3 z4 z5;refine(key w0 z1 z2 z3 z4 z5).mono ?_;rintro q w' ⟨h1,h2⟩;refine⟨h1,?_⟩;rcases h2 with⟨v,d,e',k1,k2,k3,k4,_⟩|⟨k0,s',OT,OU,DX,Df,m1,m2,m3,m4,m5,m6⟩
   .rw[Bh]at k4;cases k4
   .rw[Bh]at m5;cases m5;exact⟨k0,s',OT,OU,DX,Df,m1,rfl⟩
  clear key Bh hL uX hPow hE;go_enter func44,ntmps44
  go_upto_region 1 with(fail)
  generalize Og:w.alloc _=w0 at xH zh hL0 Z9 hP0 hE0⊢;clear Og;have K0:=K w0 xH hL0 Z9 hP0 hE0;have aev:w.heap.size<w0.heap.size:=zh.lt;clear K
  go_upto_region 4 with(first|(go_at_call 42;with_reducible refine K0.mono ?_;rintro q w1 ⟨g1,rfl,s,vN,vS,DX,Df,I,rfl⟩))
  have D5:=zh.later g1 aev hne;have c0:=D5.cell (i:=0) rfl;have c1:=D5.cell (i:=1) rfl;have c2:=D5.cell (i:=2) rfl;have c3:=D5.cell (i:=3) rfl;have c4:=D5.cell (i:=4) rfl;have c5:=D5.cell (i:=5) rfl;have c6:=D5.cell (i:=6) rfl;have f0:=D5.frozen;obtain⟨bn,cn,rfl⟩:=uB I.on;obtain⟨bz,cz,rfl⟩:=uB I.os;obtain⟨bc,cc,eC,_⟩:=I.oc.slice;subst eC;have d0:=ql.cell I.rd (i:=0) rfl;have d1:=ql.cell I.rd (i:=1) rfl;have d2:=ql.cell I.rd (i:=2) rfl;have d3:=ql.cell I.rd (i:=3) rfl;have d4:=ql.cell I.rd (i:=4) rfl;have d5:=ql.cell I.rd (i:=5) rfl;have d6:=ql.cell I.rd (i:=6) rfl;simp only[St.rd]at d0 d1 d2 d3 d4 d5 d6;go_wp2;obtain⟨hF,hG⟩:=adw (b0:=.int .i64 (s.k:Int)) (b1:=.int .i64 (s.n:Int)) (b2:=.int .i64 (s.i:Int)) (b3:=.int .i64 (s.c:Int)) (b4:=.slice bn s.ns.length cn) (b5:=.slice bz s.zs.length cz) (b6:=.slice bc s.qC.length cc) D5;refine dS (Eu (p:=2) (u:=3) rfl _ _ w.heap.size 41 _ (0,0) _ aF hF underlying41 rfl ak) rfl ?_;exact⟨((qG.qw xH).step (g1.mono (ay _) (λ_ x=>x)) (λ_ _ x=>x)).step hG (λk hk e=>ag),_,_,_,rfl,yJ D5 hG I.on aB,yJ D5 hG I.os aB,yJ D5 hG I.oc aB⟩
end
end Go.Proofs.Y
namespace Go.Proofs.Y
open Go.Proofs.Tryz
open Go.RowKit Go.Extern.Stop Go.Stop Go.Extern
theorem Ws(t:Addr)(w:ah):(callFunc 56 #[.iface 76 (.pointer (some t))]).run prog w
  =.ok (.value (.agg #[.pointer (some ⟨7,76,none⟩),.pointer (some ⟨w.heap.size,0,none⟩),.int .u64 150])) (w.alloc (.cells #[.pointer (some t)] 76)):=ak
theorem Ic(t:Addr)(w:ah):(callFunc 56 #[.iface 74 (.pointer (some t))]).run prog w
  =.ok (.value (.agg #[.pointer (some ⟨7,74,none⟩),.pointer (some ⟨w.heap.size,0,none⟩),.int .u64 150])) (w.alloc (.cells #[.pointer (some t)] 74)):=ak
theorem adx(a:Addr)(w:ah):(callFunc 57 #[.agg #[.pointer (some ⟨7,76,none⟩),.pointer (some a),.int .u64 150]]).run prog w
  =.ok (.value (.iface 163 (.agg #[.pointer (some ⟨7,76,none⟩)]))) w:=ak
theorem ady(w:ah):(callFunc 185 #[.agg #[.pointer (some ⟨7,76,none⟩)]]).run prog w=.ok (.value (.iface 163 (.agg #[.pointer (some ⟨7,74,none⟩)]))) w:=ak
theorem Va(w:ah):(callFunc 186 #[.agg #[.pointer (some ⟨7,74,none⟩)],.iface 163 (.agg #[.pointer (some ⟨7,45,none⟩)])]).run prog w=.ok (.value (.bool true)) w:=ak
theorem JL(v:ai)(w:ah):(callFunc 67 #[.iface 74 v]).run prog w=.ok (.value (.iface 163 (.agg #[.pointer (some ⟨7,74,none⟩)]))) w:=ak
theorem JM(v:ai)(w:ah):(callFunc 67 #[.iface 116 v]).run prog w=.ok (.value (.iface 163 (.agg #[.pointer (some ⟨7,116,none⟩)]))) w:=ak
theorem JO(w:ah):(callFunc 183 #[.agg #[.pointer (some ⟨7,74,none⟩)],.iface 163 (.agg #[.pointer (some ⟨7,74,none⟩)])]).run prog w=.ok (.value (.bool true)) w:=ak
theorem JP(w:ah):(callFunc 183 #[.agg #[.pointer (some ⟨7,116,none⟩)],.iface 163 (.agg #[.pointer (some ⟨7,74,none⟩)])]).run prog w=.ok (.value (.bool false)) w:=ak
theorem ajp(v:ai)(xT:aG)(w:ah):(Instr.typeAssert (.iface 116 v) xT 167 true).run prog w=.ok (.tuple #[.nilIface,.bool false]) w:=run_typeAssert_lacksB underlying167 ak ak v xT w
theorem ae_(a:Addr)(w:ah):(ReflectliteValue.parts (.agg #[.pointer (some ⟨7,76,none⟩),.pointer (some a),.int .u64 150])).run prog w=.ok (some (76,a,150)) w:=ak
theorem amw(a:Addr)(w:ah):(ReflectliteValue.parts (.agg #[.pointer (some ⟨7,74,none⟩),.pointer (some a),.int .u64 406])).run prog w=.ok (some (74,a,406)) w:=ak
theorem aoX(a:Addr)(w:ah):(ReflectliteValue.parts (.agg #[.pointer (some ⟨7,74,none⟩),.pointer (some a),.int .u64 150])).run prog w=.ok (some (74,a,150)) w:=ak
theorem amx(w:ah):(Rtype.directlyAssignable 74 74).run prog w=.ok true w:=ak
theorem ajq(w:ah):(Rtype.elem? 76).run prog w=.ok (some 74) w:=ak
theorem mkP(p:Addr)(w:ah):(ReflectliteValue.mk 74 p ReflectliteValue.flagAddr).run prog w=.ok (.agg #[.pointer (some ⟨7,74,none⟩),.pointer (some p),.int .u64 406]) w:=ak
theorem methodAt(z:Sem ai)(f:aG->Addr->Nat->Nat->Sem ai)(v:ai):ReflectliteValue.method z f #[v]=(ReflectliteValue.parts v>>=λr=>match r with|none=>z|some (t,a,fl)=>f t a fl (fl%32)):=rfl
theorem amy(a p:Addr)(W:ah)(ha:W.cell? a=some (.pointer (some p))):
  (callFunc 58 #[.agg #[.pointer (some ⟨7,76,none⟩),.pointer (some a),.int .u64 150]]).run prog W=.ok (.value (.bool false)) W:=by
 have h:=@run_callFunc_extern prog 58 _ (ReflectliteValue.method (ReflectliteValue.valueError "reflectlite.Value.IsNil" 0) ReflectliteValue.isNil) func58 ak ak ak ak;rw[h];rw[methodAt];simp[Sem.run_bind,ae_,Result.andThen,ReflectliteValue.isNil,loadVar,isAgg,underlying,underlying76,ha]
theorem adz(a p:Addr)(W:ah)(ha:W.cell? a=some (.pointer (some p))):
  (callFunc 85 #[.agg #[.pointer (some ⟨7,76,none⟩),.pointer (some a),.int .u64 150]]).run prog W
   =.ok (.value (.agg #[.pointer (some ⟨7,74,none⟩),.pointer (some p),.int .u64 406])) W:=by
 have h:=@run_callFunc_extern prog 85 _ (ReflectliteValue.method (ReflectliteValue.valueError "reflectlite.Value.Elem" 0) ReflectliteValue.elem) func85 ak ak ak ak;rw[h];rw[methodAt];simp[Sem.run_bind,ae_,Result.andThen,ReflectliteValue.elem,loadVar,isAgg,underlying,underlying76,ha,ajq,mkP]
theorem ajr(ta b e:Addr)(old:ai)(W:ah)(hb:W.cell? b=some (.pointer (some e)))(ht:W.cell? ta=some old)(hf:W.frozen? ta=false):
  (callFunc 86 #[.agg #[.pointer (some ⟨7,74,none⟩),.pointer (some ta),.int .u64 406],.agg #[.pointer (some ⟨7,74,none⟩),.pointer (some b),.int .u64 150]]).run prog W
   =.ok (.value (.tuple #[])) (W.setCell ta (.pointer (some e))):=by
 have h:=@run_callFunc_extern prog 86 _ ReflectliteValue.set func86 ak ak ak ak;rw[h];have hs:∀v x,ReflectliteValue.set #[v,x]=(ReflectliteValue.parts v>>=λp=>ReflectliteValue.parts x>>=λq=>_):=λv x=>rfl
 rw[hs];simp[Sem.run_bind,amw,aoX,Result.andThen,ReflectliteValue.flagAddr,loadVar,isAgg,underlying,underlying74,hb,amx,storeVar,Value.cells,storeCells,Addr.add];rw[run_store prog W ta _ _ aF];simp[ht,hf]
theorem as0(b:Nat)(ab tb:Nat)(w:ah)(ha:w.cell? ⟨ab,0,none⟩=some (.pointer (some ⟨tb,0,none⟩)))(ht:ql w tb [.pointer none] 74):
  Calls prog 59 #[.iface 74 (.pointer (some ⟨b,0,none⟩)),.iface 76 (.pointer (some ⟨tb,0,none⟩)),.agg #[.pointer (some ⟨7,76,none⟩),.pointer (some ⟨ab,0,none⟩),.int .u64 150],.iface 163 (.agg #[.pointer (some ⟨7,74,none⟩)])] w λr w'=>r=.returned (.bool true)/\w'.cell? ⟨tb,0,none⟩=some (.pointer (some ⟨b,0,none⟩))/\qG w.heap.size (λk=>k=tb) w w':=by
 have f1:=JL;have f2:=JM;have f3:=JO;have f4:=JP;have f5:=Ic;have f6:=ajp;have f7:=ER;have hal:=rY ha;have TQ:=ht.lt;have el:=adz ⟨ab,0,none⟩ ⟨tb,0,none⟩ (w.alloc (.cells #[.pointer (some ⟨7,76,none⟩),.pointer (some ⟨ab,0,none⟩),.int .u64 150] 126)) (by rw[lQ _ _ ⟨ab,0,none⟩ hal];exact ha);have PX:ql ((w.alloc (.cells #[.pointer (some ⟨7,76,none⟩),.pointer (some ⟨ab,0,none⟩),.int .u64 150] 126)).alloc (.cells #[.pointer (some ⟨b,0,none⟩)] 74)) tb [.pointer none] 74:=(ht.later (S:=λ_=>False) (qG.alloc (qG.refl _ _ _) (ay _) _) TQ id).later (S:=λ_=>False) (qG.alloc (qG.refl _ _ _) (ay _) _) aJ id;have st:=ajr ⟨tb,0,none⟩ ⟨w.heap.size+1,0,none⟩ ⟨b,0,none⟩ (.pointer none) ((w.alloc (.cells #[.pointer (some ⟨7,76,none⟩),.pointer (some ⟨ab,0,none⟩),.int .u64 150] 126)).alloc (.cells #[.pointer (some ⟨b,0,none⟩)] 74)) (by rw[World.cell?_alloc_at _ _ _ _ aA];rfl) (PX.cell rfl) (PX.frozen 0);have zZ:=ql.set ht 0 (.pointer (some ⟨b,0,none⟩));have C_:=((zZ.later (S:=λ_=>False) (qG.alloc (qG.refl _ _ _) (ay _) (.cells #[.pointer (some ⟨7,76,none⟩),.pointer (some ⟨ab,0,none⟩),.int .u64 150] 126)) zZ.lt id).later (S:=λ_=>False) (qG.alloc (qG.refl _ _ _) (ay _) (.cells #[.pointer (some ⟨b,0,none⟩)] 74)) aJ id).cell (i:=0) rfl;have ajs:=(((qG.refl w.heap.size (λk=>k=tb) w).setCell (p:=⟨tb,0,none⟩) (.inr rfl) (.pointer (some ⟨b,0,none⟩))).alloc aA (.cells #[.pointer (some ⟨7,76,none⟩),.pointer (some ⟨ab,0,none⟩),.int .u64 150] 126)).alloc aA (.cells #[.pointer (some ⟨b,0,none⟩)] 74);clear PX zZ;go_enter func59,ntmps59;go_wp2;refine lH 1 ?_;rw[gK]
 go_wp2_with(first|fail)
 exact axG
theorem as1(b0 b:Nat)(ab tb:Nat)(w:ah)(s0:ByteArray)(h0:ql w b0 [.string s0,.iface 74 (.pointer (some ⟨b,0,none⟩))] 118)(ha:w.cell? ⟨ab,0,none⟩=some (.pointer (some ⟨tb,0,none⟩)))(ht:ql w tb [.pointer none] 74):
  Calls prog 59 #[.iface 116 (.pointer (some ⟨b0,0,none⟩)),.iface 76 (.pointer (some ⟨tb,0,none⟩)),.agg #[.pointer (some ⟨7,76,none⟩),.pointer (some ⟨ab,0,none⟩),.int .u64 150],.iface 163 (.agg #[.pointer (some ⟨7,74,none⟩)])] w λr w'=>r=.returned (.bool true)/\w'.cell? ⟨tb,0,none⟩=some (.pointer (some ⟨b,0,none⟩))/\qG w.heap.size (λk=>k=tb) w w':=by
 have f1:=JL;have f2:=JM;have f3:=JO;have f4:=JP;have f5:=Ic;have f6:=ajp;have f7:=ER;have K0:=BB b0 s0 _ (w.alloc (.cells #[.pointer (some ⟨7,76,none⟩),.pointer (some ⟨ab,0,none⟩),.int .u64 150] 126)) (h0.later (S:=λ_=>False) (qG.alloc (qG.refl _ _ _) (ay _) _) h0.lt id);have hal:=rY ha;have TQ:=ht.lt;have el:=adz ⟨ab,0,none⟩ ⟨tb,0,none⟩ (w.alloc (.cells #[.pointer (some ⟨7,76,none⟩),.pointer (some ⟨ab,0,none⟩),.int .u64 150] 126)) (by rw[lQ _ _ ⟨ab,0,none⟩ hal];exact ha);have PX:ql ((w.alloc (.cells #[.pointer (some ⟨7,76,none⟩),.pointer (some ⟨ab,0,none⟩),.int .u64 150] 126)).alloc (.cells #[.pointer (some ⟨b,0,none⟩)] 74)) tb [.pointer none] 74:=(ht.later (S:=λ_=>False) (qG.alloc (qG.refl _ _ _) (ay _) _) TQ id).later (S:=λ_=>False) (qG.alloc (qG.refl _ _ _) (ay _) _) aJ id;have st:=ajr ⟨tb,0,none⟩ ⟨w.heap.size+1,0,none⟩ ⟨b,0,none⟩ (.pointer none) ((w.alloc (.cells #[.pointer (some ⟨7,76,none⟩),.pointer (some ⟨ab,0,none⟩),.int .u64 150] 126)).alloc (.cells #[.pointer (some ⟨b,0,none⟩)] 74)) (by rw[World.cell?_alloc_at _ _ _ _ aA];rfl) (PX.cell rfl) (PX.frozen 0);have zZ:=ql.set ht 0 (.pointer (some ⟨b,0,none⟩));have C_:=((zZ.later (S:=λ_=>False) (qG.alloc (qG.refl _ _ _) (ay _) (.cells #[.pointer (some ⟨7,76,none⟩),.pointer (some ⟨ab,0,none⟩),.int .u64 150] 126)) zZ.lt id).later (S:=λ_=>False) (qG.alloc (qG.refl _ _ _) (ay _) (.cells #[.pointer (some ⟨b,0,none⟩)] 74)) aJ id).cell (i:=0) rfl;have ajs:=(((qG.refl w.heap.size (λk=>k=tb) w).setCell (p:=⟨tb,0,none⟩) (.inr rfl) (.pointer (some ⟨b,0,none⟩))).alloc aA (.cells #[.pointer (some ⟨7,76,none⟩),.pointer (some ⟨ab,0,none⟩),.int .u64 150] 126)).alloc aA (.cells #[.pointer (some ⟨b,0,none⟩)] 74);clear PX zZ;go_enter func59,ntmps59;go_wp2;refine lH 2 ?_;rw[gK]
 go_wp2_with(first|(go_at_call 178;with_reducible refine K0.mono ?_;rintro r w' ⟨rfl,sH⟩;obtain rfl:=sH.symm))
 rw[gK]
 go_wp2_with(first|(go_at_call 178;with_reducible refine K0.mono ?_;rintro r w' ⟨rfl,sH⟩;obtain rfl:=sH.symm))
 exact axG
theorem as2(b0 b1 b:Nat)(ab tb:Nat)(w:ah)(s0 s1:ByteArray)(h0:ql w b0 [.string s0,.iface 116 (.pointer (some ⟨b1,0,none⟩))] 118)(h1:ql w b1 [.string s1,.iface 74 (.pointer (some ⟨b,0,none⟩))] 118)(ha:w.cell? ⟨ab,0,none⟩=some (.pointer (some ⟨tb,0,none⟩)))(ht:ql w tb [.pointer none] 74):
  Calls prog 59 #[.iface 116 (.pointer (some ⟨b0,0,none⟩)),.iface 76 (.pointer (some ⟨tb,0,none⟩)),.agg #[.pointer (some ⟨7,76,none⟩),.pointer (some ⟨ab,0,none⟩),.int .u64 150],.iface 163 (.agg #[.pointer (some ⟨7,74,none⟩)])] w λr w'=>r=.returned (.bool true)/\w'.cell? ⟨tb,0,none⟩=some (.pointer (some ⟨b,0,none⟩))/\qG w.heap.size (λk=>k=tb) w w':=by
 have f1:=JL;have f2:=JM;have f3:=JO;have f4:=JP;have f5:=Ic;have f6:=ajp;have f7:=ER;have K0:=BB b0 s0 _ (w.alloc (.cells #[.pointer (some ⟨7,76,none⟩),.pointer (some ⟨ab,0,none⟩),.int .u64 150] 126)) (h0.later (S:=λ_=>False) (qG.alloc (qG.refl _ _ _) (ay _) _) h0.lt id);have K1:=BB b1 s1 _ (w.alloc (.cells #[.pointer (some ⟨7,76,none⟩),.pointer (some ⟨ab,0,none⟩),.int .u64 150] 126)) (h1.later (S:=λ_=>False) (qG.alloc (qG.refl _ _ _) (ay _) _) h1.lt id);have hal:=rY ha;have TQ:=ht.lt;have el:=adz ⟨ab,0,none⟩ ⟨tb,0,none⟩ (w.alloc (.cells #[.pointer (some ⟨7,76,none⟩),.pointer (some ⟨ab,0,none⟩),.int .u64 150] 126)) (by rw[lQ _ _ ⟨ab,0,none⟩ hal];exact ha);have PX:ql ((w.alloc (.cells #[.pointer (some ⟨7,76,none⟩),.pointer (some ⟨ab,0,none⟩),.int .u64 150] 126)).alloc (.cells #[.pointer (some ⟨b,0,none⟩)] 74)) tb [.pointer none] 74:=(ht.later (S:=λ_=>False) (qG.alloc (qG.refl _ _ _) (ay _) _) TQ id).later (S:=λ_=>False) (qG.alloc (qG.refl _ _ _) (ay _) _) aJ id;have st:=ajr ⟨tb,0,none⟩ ⟨w.heap.size+1,0,none⟩ ⟨b,0,none⟩ (.pointer none) ((w.alloc (.cells #[.pointer (some ⟨7,76,none⟩),.pointer (some ⟨ab,0,none⟩),.int .u64 150] 126)).alloc (.cells #[.pointer (some ⟨b,0,none⟩)] 74)) (by rw[World.cell?_alloc_at _ _ _ _ aA];rfl) (PX.cell rfl) (PX.frozen 0);have zZ:=ql.set ht 0 (.pointer (some ⟨b,0,none⟩));have C_:=((zZ.later (S:=λ_=>False) (qG.alloc (qG.refl _ _ _) (ay _) (.cells #[.pointer (some ⟨7,76,none⟩),.pointer (some ⟨ab,0,none⟩),.int .u64 150] 126)) zZ.lt id).later (S:=λ_=>False) (qG.alloc (qG.refl _ _ _) (ay _) (.cells #[.pointer (some ⟨b,0,none⟩)] 74)) aJ id).cell (i:=0) rfl;have ajs:=(((qG.refl w.heap.size (λk=>k=tb) w).setCell (p:=⟨tb,0,none⟩) (.inr rfl) (.pointer (some ⟨b,0,none⟩))).alloc aA (.cells #[.pointer (some ⟨7,76,none⟩),.pointer (some ⟨ab,0,none⟩),.int .u64 150] 126)).alloc aA (.cells #[.pointer (some ⟨b,0,none⟩)] 74);clear PX zZ;go_enter func59,ntmps59;go_wp2;refine lH 3 ?_;rw[gK]
 go_wp2_with(first|(go_at_call 178;with_reducible refine K0.mono ?_;rintro r w' ⟨rfl,sH⟩;obtain rfl:=sH.symm)|(go_at_call 178;with_reducible refine K1.mono ?_;rintro r w' ⟨rfl,sH⟩;obtain rfl:=sH.symm))
 rw[gK]
 go_wp2_with(first|(go_at_call 178;with_reducible refine K0.mono ?_;rintro r w' ⟨rfl,sH⟩;obtain rfl:=sH.symm)|(go_at_call 178;with_reducible refine K1.mono ?_;rintro r w' ⟨rfl,sH⟩;obtain rfl:=sH.symm))
 rw[gK]
 go_wp2_with(first|(go_at_call 178;with_reducible refine K0.mono ?_;rintro r w' ⟨rfl,sH⟩;obtain rfl:=sH.symm)|(go_at_call 178;with_reducible refine K1.mono ?_;rintro r w' ⟨rfl,sH⟩;obtain rfl:=sH.symm))
 exact axG
theorem sF.later{w w':ah}{S:Nat->Prop}(hb:qG w.heap.size S w w')(hS:∀k (cs:aK) t,ql w k cs t->t=78\/t=118->¬S k):∀{d:Nat}{v:ai}{e p:Nat},sF w d v e p->sF w' d v e p
 |0,_,_,_,⟨b,e1,h1⟩=>⟨b,e1,h1.later hb h1.lt (hS b _ _ h1 (.inl rfl))⟩
 |_+1,_,_,_,⟨b,s,c,e1,h1,h2⟩=>⟨b,s,c,e1,h1.later hb h1.lt (hS b _ _ h1 (.inr rfl)),sF.later hb hS h2⟩
theorem sF.below{w w':ah}(hb:Below w.heap.size w w'){d:Nat}{v:ai}{e p:Nat}(h:sF w d v e p):sF w' d v e p:=sF.later (S:=λ_=>False) (.qw hb) (λ_ _ _ _ _=>id) h
def CY(w:ah):Prop:=w.cell? ⟨1,0,none⟩=some (.iface 163 (.agg #[.pointer (some ⟨7,45,none⟩)]))
theorem CY.below{w w':ah}{B:Nat}(h:CY w)(hb:Below B w w')(hB:1<B):CY w':=(hb.cell (p:=⟨1,0,none⟩) hB).trans h
theorem adA(w:ah):(callFunc 172 #[.pointer (some ⟨7,76,none⟩)]).run prog w=.ok (.value (.int .u8 22)) w:=ak
theorem agE(w:ah):(callFunc 172 #[.pointer (some ⟨7,74,none⟩)]).run prog w=.ok (.value (.int .u8 22)) w:=ak
def Vb(w:ah)(tb e p:Nat)(r:Ending)(w':ah):Prop:=r=.returned (.bool true)/\∃b,w'.cell? ⟨tb,0,none⟩=some (.pointer (some ⟨b,0,none⟩))/\ql w' b [.int .i64 (e:Int),.int .i64 (p:Int)] 78/\qG w.heap.size (λk=>k=tb) w w'
theorem ql.apart{w:ah}{b b':Nat}{cs cs':aK}{t t':aG}(h:ql w b cs t)(h':ql w b' cs' t')(hne:t≠t'):b≠b':=by rintro rfl;unfold ql at h h';rw[h]at h';cases h';exact hne rfl
theorem ajt(d:Nat)(hd:d<=2)(v:ai)(e p ab tb:Nat)(w:ah)(h:sF w d v e p)(ha:w.cell? ⟨ab,0,none⟩=some (.pointer (some ⟨tb,0,none⟩)))(ht:ql w tb [.pointer none] 74):
  Calls prog 59 #[v,.iface 76 (.pointer (some ⟨tb,0,none⟩)),.agg #[.pointer (some ⟨7,76,none⟩),.pointer (some ⟨ab,0,none⟩),.int .u64 150],.iface 163 (.agg #[.pointer (some ⟨7,74,none⟩)])] w λr w'=>Vb w tb e p r w':=by
 match d,hd,h with
 |0,_,⟨b,e1,h1⟩=>subst e1;exact(as0 b ab tb w ha ht).mono λr w' x=>⟨x.1,b,x.2.1,h1.later x.2.2 h1.lt (ql.apart h1 ht aB),x.2.2⟩
 |1,_,⟨b0,s0,c,e1,h1,b,e2,h2⟩=>subst e1 e2;exact(as1 b0 b ab tb w s0 h1 ha ht).mono λr w' x=>⟨x.1,b,x.2.1,h2.later x.2.2 h2.lt (ql.apart h2 ht aB),x.2.2⟩
 |2,_,⟨b0,s0,c,e1,h1,b1,s1,c1,e2,h2,b,e3,h3⟩=>subst e1 e2 e3;exact(as2 b0 b1 b ab tb w s0 s1 h1 h2 ha ht).mono λr w' x=>⟨x.1,b,x.2.1,h3.later x.2.2 h3.lt (ql.apart h3 ht aB),x.2.2⟩
theorem aju(d:Nat)(hd:d<=2)(v:ai)(e p tb:Nat)(w:ah)(h:sF w d v e p)(ht:ql w tb [.pointer none] 74)(hE:CY w):
  Calls prog 27 #[v,.iface 76 (.pointer (some ⟨tb,0,none⟩))] w λr w'=>Vb w tb e p r w':=by
 have f1:=Ws;have f2:=adx;have f3:=adA;have f4:=agE;have f5:=ady;have f6:=Va;have TQ:=ht.lt;have hg:=rY hE;simp only at hg;have tV:Below w.heap.size w ((w.alloc (.cells #[.pointer (some ⟨tb,0,none⟩)] 76)).alloc (.cells #[.pointer (some ⟨7,76,none⟩),.pointer (some ⟨w.heap.size,0,none⟩),.int .u64 150] 126)):=((aO w.heap.size w).alloc (ay _) _).alloc aA _
 have V5:((w.alloc (.cells #[.pointer (some ⟨tb,0,none⟩)] 76)).alloc (.cells #[.pointer (some ⟨7,76,none⟩),.pointer (some ⟨w.heap.size,0,none⟩),.int .u64 150] 126)).cell? ⟨w.heap.size,0,none⟩=some (.pointer (some ⟨tb,0,none⟩)):=by rw[lQ _ _ ⟨w.heap.size,0,none⟩ aA];exact(ql.made w [.pointer (some ⟨tb,0,none⟩)] 76).cell (i:=0) rfl
 have n1:=amy ⟨w.heap.size,0,none⟩ ⟨tb,0,none⟩ _ V5;have hE1:=hE.below tV hg;unfold CY at hE1;have K:=ajt d hd v e p w.heap.size tb _ (h.below tV) V5 (ht.later (S:=λ_=>False) (.qw tV) TQ id);obtain⟨t,x,rfl⟩:=h.iface
 have K2:Calls prog 59 _ _ (λr w'=>Vb w tb e p r w'):=K.mono (by
  rintro r w' ⟨h1,b,h2,h3,h4⟩;exact⟨h1,b,h2,h3,(qG.qw tV).trans (h4.mono aJ (λ_ x=>x))⟩)
 clear hE h ht K;unfold Vb at K2;go_enter func27,ntmps27
 go_wp2_with(first|(go_at_call 59;refine K2.mono ?_;rintro r w' ⟨rfl,h2⟩))
 go_ret;exact⟨rfl,h2⟩
theorem aoY(x:ai)(w:ah):
  Calls prog 27 #[.nilIface,x] w λr w'=>r=.returned (.bool false)/\w'=w:=by
 go_enter func27,ntmps27;exact axd
theorem Ny(w:ah):
  Calls prog 11 #[.nilIface] w λr w'=>r=.returned (.tuple #[.int .i64 0,.int .i64 0])/\Below w.heap.size w w':=by
 have hB:=(aO w.heap.size w).alloc (ay _) (.cells #[.pointer none] 74);go_enter func11,ntmps11
 go_wp2_with(first|(go_at_call 27;refine(aoY _ _).mono ?_;rintro r w' ⟨rfl,sH⟩;obtain rfl:=sH.symm))
 go_ret2;exact⟨rfl,hB⟩
theorem Hw(d:Nat)(hd:d<=2)(v:ai)(e p:Nat)(w:ah)(h:sF w d v e p)(hE:CY w):
  Calls prog 11 #[v] w λr w'=>r=.returned (.tuple #[.int .i64 (e:Int),.int .i64 (p:Int)])/\Below w.heap.size w w':=by
 have hB:=(aO w.heap.size w).alloc (ay _) (.cells #[.pointer none] 74);have K:=aju d hd v e p w.heap.size _ (h.below hB) (ql.made w [.pointer none] 74) (hE.below hB (rY hE));unfold Vb at K;obtain⟨t,x,rfl⟩:=h.iface;clear h hE;go_enter func11,ntmps11
 go_wp2_with(first|(go_at_call 27;refine K.mono ?_;rintro r w1 ⟨rfl,b,hc,hr,hb⟩;have c0:=hr.cell (i:=0) rfl;have c1:=hr.cell (i:=1) rfl))
 have hBz:Below w.heap.size w w1:=(qG.qw hB|>.trans (hb.mono aA (λ_ x=>x))).below (λk hk x=>ag);clear K hb hr
 go_big_quiet (fail)
 go_wp2;go_ret2;exact⟨rfl,hBz.trans ⟨rfl,rfl,rfl,ay _,λ_ _=>rfl⟩⟩
