import Derived.Test.YtnbflnamlpodcaaGreatDoorWrK
set_option maxHeartbeats 8000000
set_option maxRecDepth 100000
namespace Go.Proofs.Y
open Go.Proofs.Tryz
open Go.RowKit Go.Deep Go.Lf Go.Conc Go.Hp
theorem y9{k i:Nat}{x:Nat->Nat}(hi:i<k)(hx:∀j,x j<256):∀n,NL (uj k i) x n=if i<n then x i else 0
 |0=>rfl
 |n+1=>by
  show NL (uj k i) x n^^^mul (uj k i n) (x n)=_;rw[y9 hi hx n];have hr:uj k i n=if n=i then 1 else 0:=by unfold uj;rw[aj hi]
  rw[hr];by_cases e:n=i
  .subst e;rw[aj rfl,ah ae,aj ae,mul_comm ae (hx n),mul_one (hx n),Nat.zero_xor]
  .rw[ah e,zero_mul,l7];by_cases q:i<n
   .rw[aj q,aj ae]
   .rw[ah q,ah ae]
theorem ahs{k L i m:Nat}{l:List UInt8}(hi:i<k)(hm:m<L):tJ (AY k L l i) m=tJ l (i*L+m):=by have h:=y9 (x:=λj=>xAt l L j m) hi (λj=>Fv _ _) k;rw[aj hi]at h;unfold AY;simp only[tJ,aO,bV,mD hm,dJ,aB];rw[h];show(UInt8.ofNat (tJ l (i*L+m))).toNat=_;rw[dW,aZ (Fv _ _)];rfl
theorem ak5{l:List UInt8}{i:Nat}(h:l.length<=i):tJ l i=0:=by simp only[tJ,aO];rw[gG h];rfl
def zX(K N C m:Nat)(f:Nat->qY)(d:qY->List UInt8)(i:Nat):Sh:=⟨K,N,i,C,qB m f,qG m f,AY K (tX K (rC (λj=>d (f j)) m).length) (rC (λj=>d (f j)) m) i⟩
theorem aht{K N C m i:Nat}{f:Nat->qY}{d:qY->List UInt8}(hP:Ah (K:Int) (N:Int) (C:Int))(hN:vV (qB m f))(hF:Lm (qB m f) (qG m f))(hd:∀j,j<m->(d (f j)).length=(f j).l)(hi:i<N):
  (zX K N C m f d i).O1/\(zX K N C m f d i).Listed/\(zX K N C m f d i).Few/\(zX K N C m f d i).RU/\¬(zX K N C m f d i).Bad:=by
 have ht:=FY d f m hd;refine⟨(Sh.ahu _).2 ⟨hP,?_,?_⟩,(Sh.acG _).2 (NM hN),(Sh.ak6 _).2 hF,?_,?_⟩
 .show(0:Int)<=(i:Int);omega
 .show(i:Int)<(N:Int);omega
 .show(AY _ _ _ _).length=tX (K:Int).toNat (EG (qG m f));rw[yc,ht];rfl
 .rintro⟨h1,q,h2,h3,h4⟩;have h1':(i:Int)<(K:Int):=h1;have h2':q<(AY K (tX K (rC (λj=>d (f j)) m).length) (rC (λj=>d (f j)) m) i).length:=h2;have h3':EG (qG m f)<=i*tX K (EG (qG m f))+q:=h3;rw[yc]at h2';rw[ht]at h3';refine h4 ?_;show tJ (AY K (tX K (rC (λj=>d (f j)) m).length) (rC (λj=>d (f j)) m) i) q=0;rw[ahs ae h2',ak5 h3']
theorem afz{K N C m i:Nat}{f:Nat->qY}{d:qY->List UInt8}(hK:K<=255)(hN:N<=255)(hi:i<=255):IU K N C (qB m f) (qG m f) i (AY K (tX K (rC (λj=>d (f j)) m).length) (rC (λj=>d (f j)) m) i)=RS (zX K N C m f d i):=by unfold IU RS ug x8 zX;simp only[gI];rw[acH K hK,acH N hN,acH i hi]
theorem ahv{m:Nat}{f:Nat->qY}(hm:m<=5)(h:∀j,j<m->(f j).k=yf j):Srt m f:=by
 intro i hi;rw[h i ae,h (i+1) hi];have:i<4:=ae
 match i,this with
 |0,_=>show Hp.lt (yf (0+1)) (yf 0)=false;decide
 |1,_=>show Hp.lt (yf (1+1)) (yf 1)=false;decide
 |2,_=>show Hp.lt (yf (2+1)) (yf 2)=false;decide
 |3,_=>show Hp.lt (yf (3+1)) (yf 3)=false;decide
theorem Xm(l:List UInt8)(en:Nat):∀(c a:Nat)(ns:List (List UInt8))(zs:List Nat)(e:Nat×Nat),IV l en c a ns zs=.error e->e.1≠0
 |0,a,ns,zs,e,h=>by unfold IV at h;cases h
 |c+1,a,ns,zs,e,h=>by
  unfold IV at h;split at h
  .cases h;simp
  .split at h
   .cases h;simp
   .split at h
    .cases h;simp
    .split at h
     .cases h;simp
     .exact Xm l en c _ _ _ e h
theorem Xn(l:List UInt8)(low:Bool)(ch ln:Nat)(en:Int):∀(f a:Nat)(qy:List UInt8)(e:Nat×Nat),yH l low ch ln en f a qy=.error e->e.1≠0
 |0,a,qy,e,h=>by unfold yH at h;cases h
 |f+1,a,qy,e,h=>by
  unfold yH at h;split at h
  .cases h
  .split at h
   .rename_i x hx;cases h;exact MB l _ _ _ hx
   .split at h
    .rename_i x hx;cases h;split at hx
     .exact Xo _ _ _ _ _ hx
     .cases hx
    .exact Xn l low ch ln en f _ _ e h
theorem aah{z:List UInt8}{e:Nat×Nat}(h:qP z=.error e):e.1≠0:=by
 unfold qP at h;split at h
 .rename_i x hx;cases h;unfold FW at hx;split at hx
  .rename_i y hy;cases hx;exact((Pz z _ _).or (MB z _ _)) _ hy
  .refine(?_:VC _) _ hx;unfold TP;exact(((((((FZ.or (xh au)).or (xh au)).or (xh au)).or (xh au)).or (xh au)).or (xh au)).or (xh au)).or (xh au)
 .split at h
  .rename_i x hx;cases h;unfold Ed at hx;split at hx
   .rename_i y hy;cases hx;exact MB z _ _ _ hy
   .split at hx
    .cases hx;simp
    .unfold afA at hx;split at hx
     .rename_i y hy;cases hx;exact Xm z _ _ _ _ _ _ hy
     .split at hx
      .cases hx
      .cases hx;simp
  .split at h
   .split at h
    .rename_i x hx;cases h;exact Xn z _ _ _ _ _ _ _ _ hx
    .split at h
     .rename_i x hx;cases h;exact((Pz z _ _).or (xh au)) _ hx
     .cases h
   .cases h;simp
theorem Tryz.afB:(prog.info? 29).map (λi=>(i.zero,i.size,i.bytes))=some (some (.int .i64 0),1,8):=ag
theorem afC(n:Nat)(hn:n<=1048576)(w:World):(Instr.makeSlice 36 (.int .i64 (n:Int)) (.int .i64 (n:Int))).run prog w=.ok (.slice (some ⟨w.heap.size,0,none⟩) n n) (w.alloc (.cells (madeCells #[.int .i64 0] n) 29)):=by obtain⟨i0,Af,x_,w_,wH⟩:=bG Tryz.afB;have:=jg (P:=prog) w 36 29 i0 _ underlying36 Af x_ .i64 .i64 n n ae ae fU ae;rw[w_]at this;simp only[gI,iD]at this;exact this
structure SlB(w:World)(bi:Option Addr)(n:Nat)(bs:Nat->List UInt8)(vi:Nat->Value):Prop where
 cells:0<n->∃b o,bi=some ⟨b,o,none⟩/\∀i,i<n->w.cell? ⟨b,o+i,none⟩=some (vi i)
 IW:∀i,i<n->qR w (vi i) (r_ (bs i))/\NP (vi i) (bs i).length/\(bs i).length<=4611686018427387904
theorem apM{w:World}{v:Value}{l:List UInt8}(h:qR w v (r_ l))(hV:NP v l.length):Pt w (λ_=>False) v l:=by
 rcases hV with⟨rfl,h0⟩|⟨b,off,cap,rfl,hc⟩
 .exact .inl ⟨rfl,kR h0⟩
 .refine .inr ⟨⟨b,off,none⟩,cap,rfl,hc,λ_=>id,λj hj=>?_⟩;obtain⟨ba,aco,e,_,hh⟩:=h;obtain⟨b',ahd,e',h2⟩:=hh j _ (wR hj);obtain⟨e1,_,_⟩:=Value.slice.inj e;rw[<-e1]at e';cases e';rw[Addr.add_mid];exact h2
structure DI(w:World)(gv:Nat)(bs:Nat->List UInt8)(n j:Nat)(vN vS vC:Nat->Value)(vt:Value)(wr:World):Prop where
 AZ:sK w.heap.size w wr
 row:wr.rowIs gv 29 n (λi=>if i<j then .int .i64 ((erS (bs i):Nat):Int)else .int .i64 0)
 lo:w.heap.size<=gv
 tk:Tk (gv+1) (MC bs j) vN vS vC vt wr
theorem DI.set{w:World}{gv:Nat}{bs:Nat->List UInt8}{n j:Nat}{vN vS vC:Nat->Value}{vt:Value}{wr w3:World}(h:DI w gv bs n j vN vS vC vt wr)(hb:Below wr.heap.size wr w3):
  sK w.heap.size w (w3.setCell ⟨gv,j,none⟩ (.int .i64 ((erS (bs j):Nat):Int)))/\(w3.setCell ⟨gv,j,none⟩ (.int .i64 ((erS (bs j):Nat):Int))).rowIs gv 29 n (λi=>if i<j+1 then .int .i64 ((erS (bs i):Nat):Int)else .int .i64 0)/\Tk (gv+1) (MC bs j) vN vS vC vt (w3.setCell ⟨gv,j,none⟩ (.int .i64 ((erS (bs j):Nat):Int))):=by
 have r:=h.row.of_block (hb.block gv h.row.lt);have r1:=r.set j (.int .i64 ((erS (bs j):Nat):Int));refine⟨Below.setCell (h.AZ.trans (sK.of hb) h.AZ.sH) (p:=⟨gv,j,none⟩) h.lo _,r1.congr λi hi=>?_,h.tk.AV λb t_ sZ=>?_⟩
 .by_cases e:i=j
  .subst e;rw[aj rfl,aj ae]
  .rw[ah e];by_cases e2:i<j
   .rw[aj e2,aj ae]
   .rw[ah e2,ah ae]
 .rw[blk_setCell_other _ _ _ _ (show b≠(⟨gv,j,none⟩:Addr).block from λe=>by simp at e;omega)];exact hb.block b sZ
section
variable {X:Nat->Prop}{Y:Nat->Option Obj}{D:Nat->World->Array Event->Prop}{Stop:Goroutine->World->Prop}{w:World}{cs:List Frame}{n cap:Nat}{bi:Option Addr}{bs:Nat->List UInt8}{vi:Nat->Value}{a:Addr}
theorem anw(sW:vw X D)(hS:SlB w bi n bs vi)(hn:n<=1048576)(hG:Gl a w)
  (qH:∀(T:Array Value)(gv:Nat)(vN vS vC:Nat->Value)(vt:Value)(w':World),TE1 gv n vt T->DI w gv bs n n vN vS vC vt w'->
   uh prog X Y D Stop 11 cs [.code aai] ⟨T,[]⟩ w'):
  uh prog X Y D Stop 11 cs [.code yg] ⟨#[.slice bi n cap]++Array.replicate 55 undef,[]⟩ w:=by
 rw[afD];simp only[cu,b_,bU,bY,bg,aV];refine qQ qZ sW ag rfl ak7 λR hR τ d'=>?_
 have bl:sK w.heap.size w {w with tape:=τ,drawn:=d'}:=(sK.refl _ w).tp τ d';generalize({w with tape:=τ,drawn:=d'}:World)=wA at bl⊢;simp only[qJ,yg,Tryz.f11,aB];go_wp2;refine qQ qZ sW ag rfl ak7 λR hR τ d'=>?_
 replace bl:=bl.tp τ d';generalize({wA with tape:=τ,drawn:=d'}:World)=wB at bl⊢;simp only[qJ,qo,yg,Tryz.f11,aB];have mk:=afC n hn wB;have r0:=World.rowIs_made wB (.int .i64 0) n 29;have b0:sK w.heap.size w (wB.alloc (.cells (madeCells #[.int .i64 0] n) 29)):=bl.trans (sK.of ((aA _ _).alloc (ak _) _)) bl.sH;have hlo:=bl.sH;go_wp2;clear mk;generalize wB.alloc (.cells (madeCells #[.int .i64 0] n) 29)=wC at r0 b0⊢;generalize wB.heap.size=gv at*;refine qQ qZ sW ag rfl ak7 λR hR τ d'=>?_
 replace b0:=b0.tp τ d';replace r0:World.rowIs ({wC with tape:=τ,drawn:=d'}:World) _ _ _ _:=r0;generalize({wC with tape:=τ,drawn:=d'}:World)=wD at b0 r0⊢;simp only[qJ,qo,yg,Tryz.f11,aB];go_wp2;refine qQ qZ sW ag rfl ak7 λR hR τ d'=>?_
 replace b0:=b0.tp τ d';replace r0:World.rowIs ({wD with tape:=τ,drawn:=d'}:World) _ _ _ _:=r0;generalize({wD with tape:=τ,drawn:=d'}:World)=wE at b0 r0⊢;simp only[qJ,qo,yg,Tryz.f11,aB];have D0:DI w gv bs n 0 (λ_=>undef) (λ_=>undef) (λ_=>undef) (.slice none 0 0) wE:=⟨b0,r0.congr λi hi=>fV,hlo,dh _ _ _ _,λi hi=>absurd hi (by simp[MC]),λi hi=>absurd hi (by simp[MC]),λi hi=>absurd hi (by simp[MC])⟩;go_wp2
 go_loopw [6,7,8,9,10,11,21] (λv6 _ _ _ _ _ vj wr=>∃(j:Nat)(vN vS vC:Nat->Value),j<=n/\vj=.int .i64 (j:Int)/\DI w gv bs n j vN vS vC v6 wr) (λ_ _ _ _ _ _ vj _=>n-(intOf vj).toNat)
 case atStart=>exact⟨0,_,_,_,ae,rfl,D0⟩
 case round=>
  clear D0 r0 b0;obtain⟨j,vN,vS,vC,hj,rfl,hI⟩:=hrel;by_cases qE:j<n
  .have Ag:(j:Int)<(n:Int):=ae;have hs:=uo hI.AZ;obtain⟨b,o,rfl,hcell⟩:=hS.cells ae;have c1:=hs.cell (hcell j qE);have hGr:=hG.sub hs;have hP:=apM (hs.lies (hS.IW j qE).1) (hS.IW j qE).2.1;have kP:=acI (bs j) (vi j) wr hP (hS.IW j qE).2.2 hGr.tab hGr.pow hGr.big a hGr.early hGr.anx;unfold PD at kP;have IB:=λw3 hb=>hI.set (w3:=w3) hb
   have hrc:=λ(w3:World)(hb:Below wr.heap.size wr w3)=>(hI.row.of_block (hb.block gv hI.row.lt)).cell (i:=j) qE;have hrf:=λ(w3:World)(hb:Below wr.heap.size wr w3)=>(hI.row.of_block (hb.block gv hI.row.lt)).frozen j;cases DW:qP (bs j)with
   |error e=>
    rw[DW]at kP;simp only at kP;have Xa:erS (bs j)=e.1:=by simp only[erS,DW]
    have hne:=aah DW;have asF:¬((e.1:Int)=0):=ae;have htk:=ahw DW;rw[Xa]at IB;clear hcell hGr hP hs DW Xa;unfold D5 yQ at kP;generalize e.1=e1 at*;generalize e.2=e2 at*
    go_upto_region 7 with(first|(go_at_call 18;(with_reducible refine kP.mono ?_);rintro q w2 ⟨sZ,rfl⟩))
    have vK:Below wr.heap.size wr (w2.alloc (.cells #[.int .i64 0,.int .i64 0,.int .i64 0,.int .i64 0,.slice none 0 0,.slice none 0 0,.slice none 0 0] 55)):=sZ.alloc sZ.size _;have z1:=IB _ vK;have z2:=hrc _ vK;have z3:=hrf _ vK;generalize w2.alloc (.cells #[.int .i64 0,.int .i64 0,.int .i64 0,.int .i64 0,.slice none 0 0,.slice none 0 0,.slice none 0 0] 55)=w3 at z1 z2 z3⊢;clear IB hrc hrf vK sZ c1 kP;generalize w2.heap.size=p9;rw[ah ae]at z2;go_wp2;obtain⟨z4,z5,z6⟩:=z1;exact⟨⟨j+1,vN,vS,vC,ae,ai,⟨z4,z5,hI.lo,by rw[htk];exact z6⟩⟩,fP⟩
   |ok s=>
    rw[DW]at kP;simp only at kP;have Xa:erS (bs j)=0:=by simp only[erS,DW]
    have htk:=ahx DW;have Yp:=aey bs j;rw[Xa]at IB;clear hcell hGr hP hs DW Xa;unfold yQ at kP
    go_upto_region 7 with(first|(go_at_call 18;(with_reducible refine kP.mono ?_);rintro q w2 ⟨sZ,xN,xS,xC,rfl,oN,oS,oC⟩;obtain⟨bN,cN,rfl⟩:=(qR.owned oN).len;obtain⟨bS,cS,rfl⟩:=(qR.owned oS).len;obtain⟨bC,cC,rfl⟩:=(qR.owned oC).len))
    generalize(Dk s.names).length=lN at*;generalize(zF s.sizes).length=lS at*;generalize(r_ s.qy).length=lC at*;have vK:Below wr.heap.size wr (w2.alloc (.cells #[.int .i64 (s.k:Int),.int .i64 (s.n:Int),.int .i64 (s.i:Int),.int .i64 (s.c:Int),.slice bN lN cN,.slice bS lS cS,.slice bC lC cC] 55)):=sZ.alloc sZ.size _;have hR:=qf.made w2 [.int .i64 (s.k:Int),.int .i64 (s.n:Int),.int .i64 (s.i:Int),.int .i64 (s.c:Int),.slice bN lN cN,.slice bS lS cS,.slice bC lC cC] 55;have z1:=IB _ vK;have z2:=hrc _ vK;have z3:=hrf _ vK;have oN3:=oN.alloc (.cells #[.int .i64 (s.k:Int),.int .i64 (s.n:Int),.int .i64 (s.i:Int),.int .i64 (s.c:Int),.slice bN lN cN,.slice bS lS cS,.slice bC lC cC] 55);have oS3:=oS.alloc (.cells #[.int .i64 (s.k:Int),.int .i64 (s.n:Int),.int .i64 (s.i:Int),.int .i64 (s.c:Int),.slice bN lN cN,.slice bS lS cS,.slice bC lC cC] 55);have oC3:=oC.alloc (.cells #[.int .i64 (s.k:Int),.int .i64 (s.n:Int),.int .i64 (s.i:Int),.int .i64 (s.c:Int),.slice bN lN cN,.slice bS lS cS,.slice bC lC cC] 55);have hgv:=hI.row.lt;have hp9:w2.heap.size≠gv:=by have:=sZ.size;omega
    replace hR:qf (w2.alloc (.cells #[.int .i64 (s.k:Int),.int .i64 (s.n:Int),.int .i64 (s.i:Int),.int .i64 (s.c:Int),.slice bN lN cN,.slice bS lS cS,.slice bC lC cC] 55)) w2.heap.size [.int .i64 (s.k:Int),.int .i64 (s.n:Int),.int .i64 (s.i:Int),.int .i64 (s.c:Int),.slice bN lN cN,.slice bS lS cS,.slice bC lC cC] 55:=hR;generalize w2.alloc (.cells #[.int .i64 (s.k:Int),.int .i64 (s.n:Int),.int .i64 (s.i:Int),.int .i64 (s.c:Int),.slice bN lN cN,.slice bS lS cS,.slice bC lC cC] 55)=w3 at z1 z2 z3 hR oN3 oS3 oC3⊢;clear IB hrc hrf vK sZ c1 kP oN oS oC;generalize w2.heap.size=p9 at*;rw[ah ae]at z2;replace hR:qf (w3.setCell ⟨gv,j,none⟩ (.int .i64 ((0:Nat):Int))) p9 [.int .i64 (s.k:Int),.int .i64 (s.n:Int),.int .i64 (s.i:Int),.int .i64 (s.c:Int),.slice bN lN cN,.slice bS lS cS,.slice bC lC cC] 55:=(blk_setCell_other _ _ _ _ hp9).trans hR;replace oN3:=(dF oN3 (a:=⟨gv,j,none⟩) hgv (.int .i64 ((0:Nat):Int))).mono (show gv+1<=wr.heap.size from hgv);replace oS3:=(dF oS3 (a:=⟨gv,j,none⟩) hgv (.int .i64 ((0:Nat):Int))).mono (show gv+1<=wr.heap.size from hgv);replace oC3:=(dF oC3 (a:=⟨gv,j,none⟩) hgv (.int .i64 ((0:Nat):Int))).mono (show gv+1<=wr.heap.size from hgv)
    go_upto_region 9 with(fail)
    replace hR:qf (w3.setCell ⟨gv,j,none⟩ (.int .i64 0)) p9 [.int .i64 (s.k:Int),.int .i64 (s.n:Int),.int .i64 (s.i:Int),.int .i64 (s.c:Int),.slice bN lN cN,.slice bS lS cS,.slice bC lC cC] 55:=hR;rw[show((0:Nat):Int)=0 from rfl]at z1 oN3 oS3 oC3;generalize w3.setCell ⟨gv,j,none⟩ (.int .i64 0)=w4 at*;obtain⟨z4,z5,z6⟩:=z1;have c0:=hR.cell (i:=0) rfl;have c1:=hR.cell (i:=1) rfl;have c2:=hR.cell (i:=2) rfl;have c3:=hR.cell (i:=3) rfl;have c4:=hR.cell (i:=4) rfl;have c5:=hR.cell (i:=5) rfl;have c6:=hR.cell (i:=6) rfl;have hg4:=z5.lt;obtain⟨i0,Af,x_,w_,wH⟩:=bG Tryz.PG
    obtain⟨bt,ct,rfl⟩:∃bt ct,u6=.slice bt (MC bs j).length ct:=by
     rcases z6.own.2 with⟨h1,h2⟩|⟨g,cap,_,h1,_⟩
     .exact⟨none,0,by rw[h1,h2]⟩
     .exact⟨_,_,h1⟩
    have sy:∀u∈([.int .i64 (s.k:Int),.int .i64 (s.n:Int),.int .i64 (s.i:Int),.int .i64 (s.c:Int),.slice bN lN cN,.slice bS lS cS,.slice bC lC cC]:List Value),u.oneCell'=true:=by intro u hu;simp only[dA,aua,or_false]at hu;rcases hu with rfl|rfl|rfl|rfl|rfl|rfl|rfl<;>rfl
    clear hR z2 z3 hI
    go_wp2_with(at_builtin;refine dG _ rfl _ _ 52 rfl (gv+1) 55 i0 (.agg #[.int .i64 0,.int .i64 0,.int .i64 0,.int .i64 0,.slice none 0 0,.slice none 0 0,.slice none 0 0]) 7 104 underlying52 Af x_ w_ wH rfl au _ _ _ rfl (z6.own.alloc _) ⟨w4.heap.size,0,none⟩ 1 1 [.int .i64 (s.k:Int),.int .i64 (s.n:Int),.int .i64 (s.i:Int),.int .i64 (s.c:Int),.slice bN lN cN,.slice bS lS cS,.slice bC lC cC] rfl rfl (Ee _ _ _) sy bH ae az ?_;intro v' w5 CE tq _;obtain⟨gq,cq,rfl,_,_⟩:=CE.form ae)
    replace tq:(w4.alloc (.cells #[.int .i64 (s.k:Int),.int .i64 (s.n:Int),.int .i64 (s.i:Int),.int .i64 (s.c:Int),.slice bN lN cN,.slice bS lS cS,.slice bC lC cC] 55)).grownBy w5 (Value.slice bt (MC bs j).length ct).ownBlock:=tq;have b5:Below (gv+1) w4 w5:=(((aA _ w4).alloc (ak _) _).mono (show gv+1<=w4.heap.size from hg4)).grown tq az (λk hk=>(z6.own.lt k hk).1);have t5:=(z6.AV (w':=w4.alloc (.cells #[.int .i64 (s.k:Int),.int .i64 (s.n:Int),.int .i64 (s.i:Int),.int .i64 (s.c:Int),.slice bN lN cN,.slice bS lS cS,.slice bC lC cC] 55)) (λb _ sZ=>bM _ _ b sZ)).more (s:=s) (oN3.alloc _) (oS3.alloc _) (oC3.alloc _) tq CE;rw[<-htk]at t5;exact⟨⟨j+1,_,_,_,ae,ai,⟨z4.trans (sK.of b5) ae,z5.of_block (b5.block gv (dm _)),hlo,t5⟩⟩,fP⟩
  .obtain rfl:j=n:=ae;have GH:¬((j:Int)<(j:Int)):=ae;go_wp2;exact qH _ gv vN vS vC _ wr ⟨_,acJ rfl⟩ hI
end
end Go.Proofs.Y
namespace Go.Proofs.Y
open Go.Proofs.Tryz
open Go.RowKit Go.Deep Go.Lf Go.Conc Go.ConcN Go.Gh Go.Hp
section
variable {X:Nat->Prop}{Y:Nat->Option Obj}{D:Nat->World->Array Event->Prop}{Stop:Goroutine->World->Prop}{w:World}{cs:List Frame}{fr:Frame}{gv n:Nat}{vt vb ve:Value}{T:Array Value}
theorem apN(sW:vw X D)(hT:TE1 gv n vt T)
  (qH:∀T',TE1 gv n vt T'->uh prog X Y D Stop 19 (ahy T'::cs) [.code xM] ⟨#[vt]++Array.replicate 34 undef,[]⟩ w):
  uh prog X Y D Stop 11 cs [.code aai] ⟨T,[]⟩ w:=by
 obtain⟨g,rfl⟩:=hT;unfold Tdc;rw[ak8];refine vX sW rfl (BQ sW ?_);rw[afE];simp only[List.range,List.range.loop];refine qw qZ sW vt jy rfl ag (λz _=>aN) ?_;walk_nrm;refine xH sW jy rfl ax func19 ag (c:=xM) ag (vs:=#[vt]) (n:=34) fQ ag ?_;unfold ahy at qH;exact qH _ ⟨_,acJ rfl⟩
theorem ak9(sW:vw X D)(hT:TE1 gv n vt T)
  (qH:∀T',TE2 gv n vb ve T'->rD prog X Y D Stop none [] 11 cs [.code acK] T' w):
  ∀z,qL X Y z w->rV prog D Stop (G ((ahy T).finish (.tuple #[vb,ve])) cs) z:=by
 rw[show ahy T=Dn none [] 11 T (.inRegion RX [1,2,3,4,5,6]::[.code acK])from rfl];rw[wU jy];show rD _ _ _ _ _ _ _ _ _ _ _ _;obtain⟨g,rfl⟩:=hT;unfold Tdc;walk_nrm;refine qw qZ sW (.tuple #[vb,ve]) jy rfl ag (λz _=>aN) ?_;walk_nrm;refine qw qZ sW vb jy rfl ag (λz _=>aN) ?_;walk_nrm;refine qw qZ sW ve jy rfl ag (λz _=>aN) ?_;walk_nrm;refine qw qZ sW vb jy rfl ag (λz _=>aN) ?_;walk_nrm;refine qw qZ sW ve jy rfl ag (λz _=>aN) ?_;walk_nrm;exact tZ sW (qH _ ⟨_,acJ rfl⟩)
theorem anz(sW:vw X D)(hT:TE2 gv n vb ve T)(hE:CW w){e:Nat}(he:(e=0/\ve=.nilIface)\/∃p,sG w 1 ve e p)
  (qH:∀w',sK w.heap.size w w'->∀z,qL X Y z w'->rV prog D Stop (G (fr.finish (.tuple #[vb,.slice (some ⟨gv,0,none⟩) n n,.int .i64 (e:Int)])) cs) z):
  uh prog X Y D Stop 11 (fr::cs) [.code acK] ⟨T,[]⟩ w:=by
 refine JX qZ sW ag func11 (R:=λy w'=>y=.tuple #[vb,.slice (some ⟨gv,0,none⟩) n n,.int .i64 (e:Int)]/\sK w.heap.size w w') (λτ d=>?_) (λy v' ⟨h1,h2⟩=>h1▸qH v' h2);have bl:sK w.heap.size w {w with tape:=τ,drawn:=d}:=(sK.refl _ w).tp τ d;have hE':CW {w with tape:=τ,drawn:=d}:=hE
 have k1:Calls prog 20 #[ve] {w with tape:=τ,drawn:=d} λr w'=>∃p:Nat,r=.returned (.tuple #[.int .i64 (e:Int),.int .i64 (p:Int)])/\Below ({w with tape:=τ,drawn:=d}:World).heap.size {w with tape:=τ,drawn:=d} w':=by
  rcases he with⟨rfl,rfl⟩|⟨p,hc⟩
  .refine(MF _).mono ?_;rintro r w' ⟨rfl,hb⟩;exact⟨0,rfl,hb⟩
  .refine(GL 1 ae ve e p _ (NQ τ d hc) hE').mono ?_;rintro r w' ⟨rfl,hb⟩;exact⟨p,rfl,hb⟩
 generalize({w with tape:=τ,drawn:=d}:World)=wA at bl k1⊢;obtain⟨f,rfl⟩:=hT;unfold Tdc
 conv in acK=>simp only[acK,aai,yg,qo,Tryz.f11,aB]
 go_wp2_with(first|(go_at_call 20;(with_reducible refine k1.mono ?_);rintro r w1 ⟨p,rfl,t_⟩))
 go_ret3
 exact⟨_,rfl,rfl,bl.trans (sK.of t_) bl.sH⟩
end
def YD(M:Nat)(sh:Nat->xg)(vb:Value)(e:Nat)(w:World):Prop:=
 (e≠0/\vb=.slice none 0 0/\(FX M sh e\/(e=13/\FX M sh 0/\¬∃l,Lj M sh l)))\/
 (e=0/\FX M sh 0/\∃l gb vd,Lj M sh l/\(∀l',Lj M sh l'->l'=l)/\vb=.slice (some ⟨gb,0,none⟩) (sh 0).names.length (sh 0).names.length/\CB (sh 0).names (sh 0).sizes l gb (sh 0).names.length vd w)
theorem CB.sub{ns:List (List UInt8)}{sz:List Nat}{l:List UInt8}{g i:Nat}{vd:Nat->Value}{w w':World}(h:CB ns sz l g i vd w)(hs:Sub w w'):CB ns sz l g i vd w':=by refine⟨?_,λj hj=>TT (h.dat j hj) hs⟩;obtain⟨c,h1,h2,h3⟩:=h.row;exact⟨c,hs.2 _ _ _ _ h1,h2,h3⟩
theorem aaj{Fin:Machine->Trace->Prop}(wZ:∀m m' ops t,stepT prog m=(.next m',ops)->Fin m' (t++ops)->Fin m t){X:Nat->Prop}{Y:Nat->Option Obj}{e:Nat}{gs:Array Goroutine}{W v0:World}{sl:Option (Nat×Nat)}{t:Trace}{qq:Nat->Nat}{fr:Frame}{cs:List Frame}{n cap:Nat}{bi:Option Addr}{bs:Nat->List UInt8}{vi:Nat->Value}{a:Addr}
  (h0:gs[0]?=some (G ((base 11).at ⟨#[.slice bi n cap]++Array.replicate 55 undef,[]⟩ [.code yg]) (fr::cs))) (hB:IE prog (vg X) e gs W t qq) (hs:qL X Y W v0)
  (hS:SlB v0 bi n bs vi) (hn:n<=1048576) (hGl:Gl a v0) (he:e+256<2147483648)
  (qH:∀(e':Nat)(g:Nat->Nat)(vb:Value)(er gv:Nat)(X':Nat->Prop)(Nl:Array Goroutine)(W':World)(sl':Option (Nat×Nat))(t':Trace)(q':Nat->Nat)(Y':Nat->Option Obj)(v':World),e'<=e+256->Prm (MC bs n).length g->(∀i,i+1<(MC bs n).length->(Ai (MC bs n) (g i)).i<=(Ai (MC bs n) (g (i+1))).i)->Nl[0]?=some (G (fr.finish (.tuple #[vb,.slice (some ⟨gv,0,none⟩) n n,.int .i64 (er:Int)])) cs)->
   IE prog (vg X') e' Nl W' t' q'->qL X' Y' W' v'->(∀b,X b->X' b)->(∀b,X' b->X b\/W.heap.size<=b)->Sub v0 v'->KpX X W W'->(∀i,i<n->v'.cell? ⟨gv,i,none⟩=some (.int .i64 ((erS (bs i):Nat):Int)))->YD (MC bs n).length (λi=>Ai (MC bs n) (g i)) vb er v'->Fin (crowd Nl W' sl') t'):
  Fin (crowd gs W sl) t:=by
 let St:Goroutine->World->Prop:=λgr W=>∃(T:Array Value)(gv:Nat)(vN vS vC:Nat->Value)(vt:Value)(v1:World),TE1 gv n vt T/\DI v0 gv bs n n vN vS vC vt v1/\gr=G ((base 19).at ⟨#[vt]++Array.replicate 34 undef,[]⟩ [.code xM]) (ahy T::fr::cs)/\qL X Y W v1
 have key:=anw (Stop:=St) (Y:=Y) (cs:=fr::cs) (cap:=cap) (Bc X) hS hn hGl (λT gv vN vS vC vt v1 a1 a2=>apN (Bc X) a1 λT' a1' y hy=>.stop λd=>⟨T',gv,vN,vS,vC,vt,v1,a1',a2,rfl,hy.at d⟩);refine late (Fin:=Fin) (Shun:=vg X) (e:=e) wZ (λ_ _ _ h=>h) (λgs1 a1 W1 sl1 t1 q1 h01 uw Iq=>?_) (key W hs) W.drawn gs sl t qq h0 hB;obtain⟨T,gv,vN,vS,vC,vt,v1,hT,hI,rfl,x9⟩:=uw W1.drawn;replace x9:qL X Y W1 v1:=x9;clear key uw;have JR:=Dv hs x9 hI.AZ;have TR:=uo hI.AZ;have w_:=JR.size;obtain⟨bo,cp,rfl,hSd⟩:=hI.tk.sds (aak bs n);have Yp:=aey bs n;refine afx wZ h01 Iq x9 hSd ae (λi hi=>aak bs n _ (by simp[Ai,a_ hi])) he ?_;intro e2 g y X2 gs2 W2 sl2 t2 q2 Y2 v2 he2 hP Yz h02 Ae zD hXa hXb O5 O3 hA;have ahz:=TR.trans O5;have hE2:CW v2:=(hGl.sub ahz).anx;have Pm:∀b,X2 b->X b\/W.heap.size<=b:=λb hb=>(hXb b hb).imp id λh=>ae
 have ak_:∀v3,Sub v2 v3->∀i,i<n->v3.cell? ⟨gv,i,none⟩=some (.int .i64 ((erS (bs i):Nat):Int)):=λv3 h3 i hi=>by have:=hI.row.cell (i:=i) hi;rw[aj hi]at this;exact(O5.trans h3).cell this
 have fin:∀(vb ve:Value)(er:Nat),y=.tuple #[vb,ve]->((er=0/\ve=.nilIface)\/∃p,sG v2 1 ve er p)->YD (MC bs n).length (λi=>Ai (MC bs n) (g i)) vb er v2->(∀v3,Sub v2 v3->YD (MC bs n).length (λi=>Ai (MC bs n) (g i)) vb er v3)->Fin (crowd gs2 W2 sl2) t2:=λvb ve er hy hv _ hR=>by
  subst hy
  let St4:Goroutine->World->Prop:=λgr W=>∃v3,sK v2.heap.size v2 v3/\gr=G (fr.finish (.tuple #[vb,.slice (some ⟨gv,0,none⟩) n n,.int .i64 (er:Int)])) cs/\qL X2 Y2 W v3
  have YB:=ak9 (Stop:=St4) (Y:=Y2) (cs:=fr::cs) (w:=v2) (vb:=vb) (ve:=ve) (Bc X2) hT (λT4 hT4=>IQ.2 (anz (Stop:=St4) (Bc X2) hT4 hE2 hv (λw' b1 z hz=>.stop λd=>⟨w',b1,rfl,hz.at d⟩)));refine late (Fin:=Fin) (Shun:=vg X2) (e:=e2) wZ (λ_ _ _ h=>h) (λVU a4 W4 Yn t4 q4 ZR uw Ib=>?_) (YB W2 zD) W2.drawn gs2 sl2 t2 q2 h02 Ae;obtain⟨v3,b1,rfl,b3⟩:=uw W4.drawn;replace b3:qL X2 Y2 W4 v3:=b3;have xu:=uo b1;exact qH e2 g vb er gv X2 VU W4 Yn t4 q4 Y2 v3 he2 hP Yz ZR Ib b3 hXa Pm (ahz.trans xu) ((JR.trans O3 λx hx=>.inl hx).trans (Dv zD b3 b1) Pm) (ak_ v3 xu) (hR v3 xu)
 rcases hA with⟨er,ev,p,hE,hne,hy,hc⟩|⟨hE,O4,ev,p,hy,hc⟩|⟨hE,l,gb,vd,hF,hU,hy,hC⟩
 .exact fin _ _ er hy (.inr ⟨p,hc⟩) (.inl ⟨hne,rfl,.inl hE⟩) λv3 _=>.inl ⟨hne,rfl,.inl hE⟩
 .exact fin _ _ 13 hy (.inr ⟨p,hc⟩) (.inl ⟨au,rfl,.inr ⟨rfl,hE,O4⟩⟩) λv3 _=>.inl ⟨au,rfl,.inr ⟨rfl,hE,O4⟩⟩
 .exact fin _ _ 0 hy (.inl ⟨rfl,rfl⟩) (.inr ⟨rfl,hE,l,gb,vd,hF,hU,rfl,hC⟩) λv3 h3=>.inr ⟨rfl,hE,l,gb,vd,hF,hU,rfl,hC.sub h3⟩
end Go.Proofs.Y
namespace Go.Proofs.Y
open Go.Proofs.Tryz
open Go.RowKit Go.Deep
structure BlS(w:World)(bo:Option Addr)(m:Nat)(ns D:Nat->List UInt8)(vd:Nat->Value):Prop where
 cells:0<m->∃b o,bo=some ⟨b,o,none⟩/\∀i,i<m->w.cell? ⟨b,o+i*2,none⟩=some (.string ⟨(ns i).toArray⟩)/\w.cell? ⟨b,o+i*2+1,none⟩=some (vd i)
 dat:∀i,i<m->qR w (vd i) (r_ (D i))
theorem VY(m ca cb:Nat)(ba bb:Option Addr)(ns D:Nat->List UInt8)(va vb:Nat->Value)(w:World)(hm:m<=1048576)(ha:BlS w ba m ns D va)(hb:BlS w bb m ns D vb):
  Calls prog 12 #[.slice ba m ca,.slice bb m cb] w λr w'=>r=.returned (.bool true)/\∃q,w'=w.drewN q:=by
 go_enter func12,ntmps12;go_wp2
 go_loopw [5] (λvi wr=>∃j q:Nat,j<=m/\vi=.int .i64 (j:Int)/\wr=w.drewN q) (λvi _=>m-(intOf vi).toNat)
 case atStart=>exact⟨0,0,ae,rfl,rfl⟩
 case round=>
  obtain⟨j,q,hj,rfl,rfl⟩:=hrel;by_cases qE:j<m
  .have Ag:(j:Int)<(m:Int):=ae;obtain⟨b,o,rfl,hc⟩:=ha.cells ae;obtain⟨b',o',rfl,hc'⟩:=hb.cells ae;obtain⟨c0,c1⟩:=hc j qE;obtain⟨d0,d1⟩:=hc' j qE;replace c0:(w.drewN q).cell? _=_:=c0;replace c1:(w.drewN q).cell? _=_:=c1;replace d0:(w.drewN q).cell? _=_:=d0;replace d1:(w.drewN q).cell? _=_:=d1;have sa:=((ha.dat j qE).drewN (q+1)).str;have sb:=((hb.dat j qE).drewN (q+1)).str;obtain⟨pa,xa,ea⟩:=(ha.dat j qE).len;obtain⟨pb,xb,eb⟩:=(hb.dat j qE).len;rw[ea]at c1 sa;rw[eb]at d1 sb;clear ha hb hc hc' ea eb;generalize(r_ (D j)).length=ld at*;have hS:(w.drewN (q+1)).cell? ⟨b,o+j*2,none⟩=some (.string ⟨(ns j).toArray⟩)/\(w.drewN (q+1)).cell? ⟨b,o+j*2+1,none⟩=some (.slice pa ld xa)/\(w.drewN (q+1)).cell? ⟨b',o'+j*2,none⟩=some (.string ⟨(ns j).toArray⟩)/\(w.drewN (q+1)).cell? ⟨b',o'+j*2+1,none⟩=some (.slice pb ld xb)/\(convert 34 9 (.slice pa ld xa)).run prog (w.drewN (q+1))=.ok (.string ⟨(D j).toArray⟩) (w.drewN (q+1))/\(convert 34 9 (.slice pb ld xb)).run prog (w.drewN (q+1))=.ok (.string ⟨(D j).toArray⟩) (w.drewN (q+1))/\w.drewN (q+1)=w.drewN (q+1):=⟨c0,c1,d0,d1,sa,sb,rfl⟩;go_wp2
   go_region_held3 (λw'=>w'.cell? ⟨b,o+j*2,none⟩=some (.string ⟨(ns j).toArray⟩)/\w'.cell? ⟨b,o+j*2+1,none⟩=some (.slice pa ld xa)/\w'.cell? ⟨b',o'+j*2,none⟩=some (.string ⟨(ns j).toArray⟩)/\w'.cell? ⟨b',o'+j*2+1,none⟩=some (.slice pb ld xb)/\(convert 34 9 (.slice pa ld xa)).run prog w'=.ok (.string ⟨(D j).toArray⟩) w'/\(convert 34 9 (.slice pb ld xb)).run prog w'=.ok (.string ⟨(D j).toArray⟩) w'/\w'=w.drewN (q+1)) (first|exact hS|(refine⟨?_,?_,?_,?_,?_,?_,?_⟩<;>assumption)|go_keep) (fail)
   go_wp2;exact⟨⟨j+1,q+1,ae,ai,rfl⟩,fP⟩
  .obtain rfl:j=m:=ae;have GH:¬((j:Int)<(j:Int)):=ae;go_wp2;go_ret;exact⟨rfl,q,rfl⟩
end Go.Proofs.Y
namespace Go.Proofs.Y
open Go.Proofs.Tryz
open Go.RowKit Go.Deep Go.Lf Go.Conc Go.ConcN Go.Gh Go.Hp
open Go.ConcR (Payload WgAt wgBlock)
theorem TU(c:Nat)(qy:List UInt8):∀j,(rO c qy j).length<=j*(c+8)
 |0=>by simp[rO]
 |j+1=>by
  rw[xI,aS,kF];have h1:=TU c qy j
  have h2:(xK c qy j).length<=c+8:=by unfold xK;rw[sO];unfold part;rw[gB];omega
  omega
theorem anA{s:Sh}(h1:s.O1)(h3:s.Few)(h4:s.RU):0<(RS s).length/\(RS s).length<=10000000000:=by
 have f:=TU s.C.toNat s.qy (GI s.C.toNat s.qy.length);have hk:1<=s.K.toNat:=by have:=h1.k1;omega
 have hl:s.qy.length<=65536:=by have a1:=Du hk (EG s.zs);have a2:=h3.bytes;have a3:s.qy.length=_:=h4;omega
 have hc1:1<=s.C.toNat:=by have:=h1.c1;omega
 have VD:s.C.toNat<=65536:=by have:=h1.c2;omega
 have hn:GI s.C.toNat s.qy.length<=65536:=by have:=Du hc1 s.qy.length;unfold tX at this;unfold GI;omega
 have hm:=BP s;have hm2:=h3.NJ;have hp:=jK hn (show s.C.toNat+8<=65544 by omega);unfold RS;simp only[aS,sO,FV,hm,bQ,dB];omega
end Go.Proofs.Y
namespace Go.Proofs.Y
open Go.Proofs.Tryz
open Go.RowKit Go.Deep Go.Hp
section
variable {K N C m:Nat}{f:Nat->qY}{d:qY->List UInt8}
def IX(K N C m:Nat)(f:Nat->qY)(d:qY->List UInt8)(i:Nat):xg:=Xk (zX K N C m f d i)
theorem afF(hd:∀j,j<m->(d (f j)).length=(f j).l):((qG m f).map Int.toNat).sum=(rC (λj=>d (f j)) m).length:=FY d f m hd
theorem ahA(i:Nat):(IX K N C m f d i).i=i:=by simp[IX,Xk,zX]
theorem ahB(i j:Nat):RV (IX K N C m f d i) (IX K N C m f d j)=true:=by simp[RV,IX,Xk,zX]
theorem aal{M:Nat}{x:Nat->Nat}(hd:∀j,j<m->(d (f j)).length=(f j).l):Lj M (λi=>IX K N C m f d (x i)) (rC (λj=>d (f j)) m):=by have hs:=afF (f:=f) hd;refine⟨hs.symm,λt ht=>?_⟩;show AY _ _ _ _=AY K (tX K ((qG m f).map Int.toNat).sum) _ (IX K N C m f d (x t)).i;rw[hs,ahA]
theorem aez{M:Nat}{x:Nat->Nat}(hx:∀i j,i<M->j<M->i≠j->x i≠x j){e:Nat}(hE:FX M (λi=>IX K N C m f d (x i)) e)(hK:1<=K):(e=0/\K<=M)\/(e=12/\M<K):=by
 have hA:CX M λi=>IX K N C m f d (x i):=λi hi=>ahB _ _
 have hD:¬Dup M λi=>IX K N C m f d (x i):=λ⟨t,h1,h2⟩=>hx (t+1) t h1 ae ae (by simpa only[ahA]using h2);rcases hE with⟨rfl,h⟩|⟨rfl,_,h⟩|⟨rfl,_,_,h⟩|⟨rfl,_,_,_,h⟩
 .exact absurd hA h
 .exact absurd h hD
 .refine .inr ⟨rfl,?_⟩;rcases h with h|h
  .omega
  .exact h
 .exact .inl ⟨rfl,h⟩
theorem ala{M:Nat}{x:Nat->Nat}{vb:Value}{er:Nat}{w:World}(hd:∀j,j<m->(d (f j)).length=(f j).l)(hx:∀i j,i<M->j<M->i≠j->x i≠x j)(hK:1<=K)(hR:YD M (λi=>IX K N C m f d (x i)) vb er w):
  (K<=M->er=0/\∃gb vd,vb=.slice (some ⟨gb,0,none⟩) m m/\CB (qB m f) ((qG m f).map Int.toNat) (rC (λj=>d (f j)) m) gb m vd w)/\(M<K->er=12/\vb=.slice none 0 0):=by
 rcases hR with⟨hne,hv,hE|⟨_,hE,O4⟩⟩|⟨rfl,hE,l,gb,vd,hF,hU,hv,hC⟩
 .rcases aez hx hE hK with⟨h,_⟩|⟨h,h2⟩
  .exact absurd h hne
  .exact⟨λh3=>ae,λ_=>⟨h,hv⟩⟩
 .exact absurd ⟨_,aal hd⟩ O4
 .rcases aez hx hE hK with⟨_,h2⟩|⟨h,_⟩
  .refine⟨λ_=>⟨rfl,gb,vd,?_,?_⟩,λh3=>ae⟩
   .rw[hv];show Value.slice _ (qB m f).length (qB m f).length=_;rw[vG]
   .have e:=hU _ (aal hd);rw[e];have hn:(IX K N C m f d (x 0)).names=qB m f:=rfl;have hz:(IX K N C m f d (x 0)).sizes=(qG m f).map Int.toNat:=rfl;have hl:=vG m f;rw[hn,hz,hl]at hC;exact hC
  .cases h
theorem join_mono(D:Nat->List UInt8):∀{m j:Nat},j<m->(rC D j).length+(D j).length<=(rC D m).length
 |0,_,h=>by omega
 |m+1,j,h=>by
  show _<=(rC D m++D m).length;rw[aS];rcases aQ j m with h1|h1
  .have:=join_mono D h1;omega
  .obtain rfl:j=m:=ae;omega
theorem Xp(D:Nat->List UInt8):∀{m j:Nat},j<m->((rC D m).drop (rC D j).length).take (D j).length=D j
 |0,_,h=>by omega
 |m+1,j,h=>by
  show((rC D m++D m).drop _).take _=_;rcases aQ j m with h1|h1
  .have h2:=join_mono D h1;rw[List.drop_append_of_le_length ae,at7 au1];exact Xp D h1
  .obtain rfl:j=m:=ae;rw[List.drop_left,List.take_length]
theorem aam(hd:∀j,j<m->(d (f j)).length=(f j).l):∀j,j<=m->pre ((qG m f).map Int.toNat) j=(rC (λj=>d (f j)) j).length
 |0,_=>by simp[pre,rC]
 |j+1,h=>by rw[IY (by rw[iT,yh];omega),aam hd j ae];show _=(rC (λj=>d (f j)) j++d (f j)).length;rw[aS,hd j ae];simp[qG,show j<m by omega]
theorem alb(hd:∀j,j<m->(d (f j)).length=(f j).l){j:Nat}(hj:j<m):pcB ((qG m f).map Int.toNat) (rC (λj=>d (f j)) m) j=d (f j):=by unfold pcB;rw[aam hd j ae,show((qG m f).map Int.toNat).getD j 0=(d (f j)).length by rw[hd j hj];simp[qG,hj]];exact Xp (λj=>d (f j)) hj
theorem alc{w:World}{gb:Nat}{vd:Nat->Value}(hd:∀j,j<m->(d (f j)).length=(f j).l)(h:CB (qB m f) ((qG m f).map Int.toNat) (rC (λj=>d (f j)) m) gb m vd w):BlS w (some ⟨gb,0,none⟩) m (λi=>(f i).k) (λi=>d (f i)) vd:=by
 have r:=h.row;rw[vG]at r;refine⟨λ_=>⟨gb,0,rfl,λi hi=>?_⟩,λi hi=>?_⟩
 .have c0:=r.cell (i:=i*2) ae;have c1:=r.cell (i:=i*2+1) ae;simp only[show i*2/2=i by omega,show(i*2+1)/2=i by omega,hi,aF,show i*2%2=0 by omega,show¬(i*2+1)%2=0 by omega,aU]at c0 c1;rw[aT];refine⟨c0.trans ?_,c1⟩;simp[ry,qB,hi]
 .have:=qR.owned (h.dat i hi);rw[alb hd hi]at this;exact this
