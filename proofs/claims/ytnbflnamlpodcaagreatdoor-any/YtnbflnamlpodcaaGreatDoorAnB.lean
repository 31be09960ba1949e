import Derived.Test.YtnbflnamlpodcaaGreatDoorWrK
set_option maxHeartbeats 8000000
set_option maxRecDepth 100000
namespace Go.Proofs.Y
open Go.RowKit Go.Deep Go.Lf Go.Conc Go.Hp
theorem xO{k i:Nat}{x:Nat->Nat}(hi:i<k)(hx:∀j,x j<256):∀n,Jv (sQ k i) x n=if i<n then x i else 0
 |0=>rfl
 |n+1=>by
  show Jv (sQ k i) x n^^^mul (sQ k i n) (x n)=_;rw[xO hi hx n];have hr:sQ k i n=if n=i then 1 else 0:=by unfold sQ;rw[aj hi]
  rw[hr];by_cases e:n=i
  .subst e;rw[aj rfl,ah ae,aj ae,mul_comm ae (hx n),mul_one (hx n),Nat.zero_xor]
  .rw[ah e,zero_mul,ni];by_cases q:i<n
   .rw[aj q,aj ae]
   .rw[ah q,ah ae]
theorem adx{k L i m:Nat}{l:List UInt8}(hi:i<k)(hm:m<L):sH (zn k L l i) m=sH l (i*L+m):=by have h:=xO (x:=λj=>YO l L j m) hi (λj=>FM _ _) k;rw[aj hi]at h;unfold zn;simp only[sH,aO,bQ,l7 hm,dK,aB];rw[h];show(UInt8.ofNat (sH l (i*L+m))).toNat=_;rw[fE,bu (FM _ _)];rfl
theorem agN{l:List UInt8}{i:Nat}(h:l.length<=i):sH l i=0:=by simp only[sH,aO];rw[gZ h];rfl
def xy(K N C m:Nat)(f:Nat->qQ)(d:qQ->List UInt8)(i:Nat):Sh:=⟨K,N,i,C,qA m f,qC m f,zn K (sF K (qW (λj=>d (f j)) m).length) (qW (λj=>d (f j)) m) i⟩
theorem ady{K N C m i:Nat}{f:Nat->qQ}{d:qQ->List UInt8}(hP:yP (K:Int) (N:Int) (C:Int))(hN:uG (qA m f))(hF:Ik (qA m f) (qC m f))(hd:∀j,j<m->(d (f j)).length=(f j).l)(hi:i<N):
  (xy K N C m f d i).Fine/\(xy K N C m f d i).Listed/\(xy K N C m f d i).Few/\(xy K N C m f d i).Ux/\¬(xy K N C m f d i).Bad:=by
 have ht:=Dz d f m hd;refine⟨(Sh.adz _).2 ⟨hP,?_,?_⟩,(Sh.YP _).2 (Jw hN),(Sh.agO _).2 hF,?_,?_⟩
 .show(0:Int)<=(i:Int);omega
 .show(i:Int)<(N:Int);omega
 .show(zn _ _ _ _).length=sF (K:Int).toNat (tot (qC m f));rw[wM,ht];rfl
 .rintro⟨h1,q,h2,h3,h4⟩;have h1':(i:Int)<(K:Int):=h1;have h2':q<(zn K (sF K (qW (λj=>d (f j)) m).length) (qW (λj=>d (f j)) m) i).length:=h2;have h3':tot (qC m f)<=i*sF K (tot (qC m f))+q:=h3;rw[wM]at h2';rw[ht]at h3';refine h4 ?_;show sH (zn K (sF K (qW (λj=>d (f j)) m).length) (qW (λj=>d (f j)) m) i) q=0;rw[adx ae h2',agN h3']
theorem abI{K N C m i:Nat}{f:Nat->qQ}{d:qQ->List UInt8}(hK:K<=255)(hN:N<=255)(hi:i<=255):FN K N C (qA m f) (qC m f) i (zn K (sF K (qW (λj=>d (f j)) m).length) (qW (λj=>d (f j)) m) i)=OY (xy K N C m f d i):=by unfold FN OY headB AQ xy;simp only[gy];rw[YQ K hK,YQ N hN,YQ i hi]
theorem adA{m:Nat}{f:Nat->qQ}(hm:m<=5)(h:∀j,j<m->(f j).k=wO j):Srt m f:=by
 intro i hi;rw[h i ae,h (i+1) hi];have:i<4:=ae
 match i,this with
 |0,_=>show Hp.lt (wO (0+1)) (wO 0)=false;decide
 |1,_=>show Hp.lt (wO (1+1)) (wO 1)=false;decide
 |2,_=>show Hp.lt (wO (2+1)) (wO 2)=false;decide
 |3,_=>show Hp.lt (wO (3+1)) (wO 3)=false;decide
theorem SK(l:List UInt8)(en:Nat):∀(c a:Nat)(ns:List (List UInt8))(zs:List Nat)(e:Nat×Nat),FO l en c a ns zs=.error e->e.1≠0
 |0,a,ns,zs,e,h=>by unfold FO at h;cases h
 |c+1,a,ns,zs,e,h=>by
  unfold FO at h;split at h
  .cases h;simp
  .split at h
   .cases h;simp
   .split at h
    .cases h;simp
    .split at h
     .cases h;simp
     .exact SK l en c _ _ _ e h
theorem SL(l:List UInt8)(low:Bool)(ch ln:Nat)(en:Int):∀(f a:Nat)(qx:List UInt8)(e:Nat×Nat),xh l low ch ln en f a qx=.error e->e.1≠0
 |0,a,qx,e,h=>by unfold xh at h;cases h
 |f+1,a,qx,e,h=>by
  unfold xh at h;split at h
  .cases h
  .split at h
   .rename_i x hx;cases h;exact IV l _ _ _ hx
   .split at h
    .rename_i x hx;cases h;split at hx
     .exact SN _ _ _ _ _ hx
     .cases hx
    .exact SL l low ch ln en f _ _ e h
theorem adB{z:List UInt8}{e:Nat×Nat}(h:qP z=.error e):e.1≠0:=by
 unfold qP at h;split at h
 .rename_i x hx;cases h;unfold Dx at hx;split at hx
  .rename_i y hy;cases hx;exact((Ll z _ _).or (IV z _ _)) _ hy
  .refine(?_:Errs _) _ hx;unfold O3;exact(((((((DD.or (vI au)).or (vI au)).or (vI au)).or (vI au)).or (vI au)).or (vI au)).or (vI au)).or (vI au)
 .split at h
  .rename_i x hx;cases h;unfold BF at hx;split at hx
   .rename_i y hy;cases hx;exact IV z _ _ _ hy
   .split at hx
    .cases hx;simp
    .unfold abJ at hx;split at hx
     .rename_i y hy;cases hx;exact SK z _ _ _ _ _ _ hy
     .split at hx
      .cases hx
      .cases hx;simp
  .split at h
   .split at h
    .rename_i x hx;cases h;exact SL z _ _ _ _ _ _ _ _ hx
    .split at h
     .rename_i x hx;cases h;exact((Ll z _ _).or (vI au)) _ hx
     .cases h
   .cases h;simp
theorem Tryz.abK:(Tryz.prog.info? 29).map (λi=>(i.zero,i.size,i.bytes))=some (some (.int .i64 0),1,8):=ag
theorem abL(n:Nat)(hn:n<=1048576)(w:World):(Instr.makeSlice 36 (.int .i64 (n:Int)) (.int .i64 (n:Int))).run Tryz.prog w=.ok (.slice (some ⟨w.heap.size,0,none⟩) n n) (w.alloc (.cells (madeCells #[.int .i64 0] n) 29)):=by obtain⟨i0,hi0,hz0,hz1,hz2⟩:=bg Tryz.abK;have:=iZ (P:=Tryz.prog) w 36 29 i0 _ Tryz.underlying36 hi0 hz0 .i64 .i64 n n ae ae fO ae;rw[hz1]at this;simp only[gy,ja]at this;exact this
structure SlB(w:World)(bi:Option Addr)(n:Nat)(bs:Nat->List UInt8)(vi:Nat->Value):Prop where
 cells:0<n->∃b o,bi=some ⟨b,o,none⟩/\∀i,i<n->w.cell? ⟨b,o+i,none⟩=some (vi i)
 EW:∀i,i<n->Lies w (vi i) (rF (bs i))/\Jy (vi i) (bs i).length/\(bs i).length<=4611686018427387904
theorem SlB.sub{w w':World}{bi:Option Addr}{n:Nat}{bs:Nat->List UInt8}{vi:Nat->Value}(h:SlB w bi n bs vi)(hs:Sub w w'):SlB w' bi n bs vi:=
 ⟨λhn=>by obtain⟨b,o,e,hc⟩:=h.cells hn;exact⟨b,o,e,λi hi=>hs.cell (hc i hi)⟩,λi hi=>⟨hs.lies (h.EW i hi).1,(h.EW i hi).2⟩⟩
theorem akC{w:World}{v:Value}{l:List UInt8}(h:Lies w v (rF l))(hV:Jy v l.length):Pt w (λ_=>False) v l:=by
 rcases hV with⟨rfl,h0⟩|⟨b,off,cap,rfl,hc⟩
 .exact .inl ⟨rfl,kH h0⟩
 .refine .inr ⟨⟨b,off,none⟩,cap,rfl,hc,λ_=>id,λj hj=>?_⟩;obtain⟨ba,cap',e,_,hh⟩:=h;obtain⟨b',off',e',h2⟩:=hh j _ (vJ hj);obtain⟨e1,_,_⟩:=Value.slice.inj e;rw[<-e1]at e';cases e';rw[Addr.add_mid];exact h2
structure DI(w:World)(gv:Nat)(bs:Nat->List UInt8)(n j:Nat)(vN vS vC:Nat->Value)(vt:Value)(wr:World):Prop where
 bel:rJ w.heap.size w wr
 row:wr.rowIs gv 29 n (λi=>if i<j then .int .i64 ((erS (bs i):Nat):Int)else .int .i64 0)
 lo:w.heap.size<=gv
 tk:Tk (gv+1) (IW bs j) vN vS vC vt wr
theorem DI.set{w:World}{gv:Nat}{bs:Nat->List UInt8}{n j:Nat}{vN vS vC:Nat->Value}{vt:Value}{wr w3:World}(h:DI w gv bs n j vN vS vC vt wr)(hb:Below wr.heap.size wr w3):
  rJ w.heap.size w (w3.setCell ⟨gv,j,none⟩ (.int .i64 ((erS (bs j):Nat):Int)))/\(w3.setCell ⟨gv,j,none⟩ (.int .i64 ((erS (bs j):Nat):Int))).rowIs gv 29 n (λi=>if i<j+1 then .int .i64 ((erS (bs i):Nat):Int)else .int .i64 0)/\Tk (gv+1) (IW bs j) vN vS vC vt (w3.setCell ⟨gv,j,none⟩ (.int .i64 ((erS (bs j):Nat):Int))):=by
 have r:=h.row.of_block (hb.block gv h.row.lt);have r1:=r.set j (.int .i64 ((erS (bs j):Nat):Int));refine⟨Below.setCell (h.bel.trans (rJ.of hb) h.bel.size') (p:=⟨gv,j,none⟩) h.lo _,r1.congr λi hi=>?_,h.tk.keep λb hb1 hb2=>?_⟩
 .by_cases e:i=j
  .subst e;rw[aj rfl,aj ae]
  .rw[ah e];by_cases e2:i<j
   .rw[aj e2,aj ae]
   .rw[ah e2,ah ae]
 .rw[blk_setCell_other _ _ _ _ (show b≠(⟨gv,j,none⟩:Addr).block from λe=>by simp at e;omega)];exact hb.block b hb2
section
variable {X:Nat->Prop}{Y:Nat->Option Obj}{D:Nat->World->Array Event->Prop}{Stop:Goroutine->World->Prop}{w:World}{cs:List Frame}{n cap:Nat}{bi:Option Addr}{bs:Nat->List UInt8}{vi:Nat->Value}{a:Addr}
theorem aiN(rM:uo X D)(hS:SlB w bi n bs vi)(hn:n<=1048576)(hG:Gl a w)
  (hnext:∀(T:Array Value)(gv:Nat)(vN vS vC:Nat->Value)(vt:Value)(w':World),TE1 gv n vt T->DI w gv bs n n vN vS vC vt w'->
   sK Tryz.prog X Y D Stop 11 cs [.code V7] ⟨T,[]⟩ w'):
  sK Tryz.prog X Y D Stop 11 cs [.code uY] ⟨#[.slice bi n cap]++Array.replicate 55 undef,[]⟩ w:=by
 rw[abM];simp only[cu,b_,bV,bY,bf,aW];refine qL qM rM ag rfl agP λR hR τ d'=>?_
 have bl:rJ w.heap.size w {w with tape:=τ,drawn:=d'}:=(rJ.refl _ w).tp τ d';generalize({w with tape:=τ,drawn:=d'}:World)=wA at bl⊢;simp only[qG,uY,Tryz.f11,aB];go_wp2;refine qL qM rM ag rfl agP λR hR τ d'=>?_
 replace bl:=bl.tp τ d';generalize({wA with tape:=τ,drawn:=d'}:World)=wB at bl⊢;simp only[qG,qo,uY,Tryz.f11,aB];have mk:=abL n hn wB;have r0:=World.rowIs_made wB (.int .i64 0) n 29;have b0:rJ w.heap.size w (wB.alloc (.cells (madeCells #[.int .i64 0] n) 29)):=bl.trans (rJ.of ((aA _ _).alloc (ak _) _)) bl.size';have hlo:=bl.size';go_wp2;clear mk;generalize wB.alloc (.cells (madeCells #[.int .i64 0] n) 29)=wC at r0 b0⊢;generalize wB.heap.size=gv at*;refine qL qM rM ag rfl agP λR hR τ d'=>?_
 replace b0:=b0.tp τ d';replace r0:World.rowIs ({wC with tape:=τ,drawn:=d'}:World) _ _ _ _:=r0;generalize({wC with tape:=τ,drawn:=d'}:World)=wD at b0 r0⊢;simp only[qG,qo,uY,Tryz.f11,aB];go_wp2;refine qL qM rM ag rfl agP λR hR τ d'=>?_
 replace b0:=b0.tp τ d';replace r0:World.rowIs ({wD with tape:=τ,drawn:=d'}:World) _ _ _ _:=r0;generalize({wD with tape:=τ,drawn:=d'}:World)=wE at b0 r0⊢;simp only[qG,qo,uY,Tryz.f11,aB];have D0:DI w gv bs n 0 (λ_=>undef) (λ_=>undef) (λ_=>undef) (.slice none 0 0) wE:=⟨b0,r0.congr λi hi=>fM,hlo,bT _ _ _ _,λi hi=>absurd hi (by simp[IW]),λi hi=>absurd hi (by simp[IW]),λi hi=>absurd hi (by simp[IW])⟩;go_wp2
 go_loopw [6,7,8,9,10,11,21] (λv6 _ _ _ _ _ vj wr=>∃(j:Nat)(vN vS vC:Nat->Value),j<=n/\vj=.int .i64 (j:Int)/\DI w gv bs n j vN vS vC v6 wr) (λ_ _ _ _ _ _ vj _=>n-(intOf vj).toNat)
 case atStart=>exact⟨0,_,_,_,ae,rfl,D0⟩
 case round=>
  clear D0 r0 b0;obtain⟨j,vN,vS,vC,hj,rfl,hI⟩:=hrel;by_cases hlt:j<n
  .have hlt':(j:Int)<(n:Int):=ae;have hs:=tK hI.bel;obtain⟨b,o,rfl,hcell⟩:=hS.cells ae;have c1:=hs.cell (hcell j hlt);have hGr:=hG.sub hs;have hP:=akC (hs.lies (hS.EW j hlt).1) (hS.EW j hlt).2.1;have kP:=YR (bs j) (vi j) wr hP (hS.EW j hlt).2.2 hGr.tab hGr.pow hGr.big a hGr.early hGr.aiO;unfold Lm at kP;have hset:=λw3 hb=>hI.set (w3:=w3) hb
   have hrc:=λ(w3:World)(hb:Below wr.heap.size wr w3)=>(hI.row.of_block (hb.block gv hI.row.lt)).cell (i:=j) hlt;have hrf:=λ(w3:World)(hb:Below wr.heap.size wr w3)=>(hI.row.of_block (hb.block gv hI.row.lt)).frozen j;cases hpe:qP (bs j)with
   |error e=>
    rw[hpe]at kP;simp only at kP;have hes:erS (bs j)=e.1:=by simp only[erS,hpe]
    have hne:=adB hpe;have hne':¬((e.1:Int)=0):=ae;have htk:=aiP hpe;rw[hes]at hset;clear hcell hGr hP hs hpe hes;unfold Bj xB at kP;generalize e.1=e1 at*;generalize e.2=e2 at*
    go_upto_region 7 with(first|(go_at_call 18;(with_reducible refine kP.mono ?_);rintro q w2 ⟨hb2,rfl⟩))
    have hb3:Below wr.heap.size wr (w2.alloc (.cells #[.int .i64 0,.int .i64 0,.int .i64 0,.int .i64 0,.slice none 0 0,.slice none 0 0,.slice none 0 0] 55)):=hb2.alloc hb2.size _;have z1:=hset _ hb3;have z2:=hrc _ hb3;have z3:=hrf _ hb3;generalize w2.alloc (.cells #[.int .i64 0,.int .i64 0,.int .i64 0,.int .i64 0,.slice none 0 0,.slice none 0 0,.slice none 0 0] 55)=w3 at z1 z2 z3⊢;clear hset hrc hrf hb3 hb2 c1 kP;generalize w2.heap.size=p9;rw[ah ae]at z2;go_wp2;obtain⟨z4,z5,z6⟩:=z1;exact⟨⟨j+1,vN,vS,vC,ae,ai,⟨z4,z5,hI.lo,by rw[htk];exact z6⟩⟩,iW⟩
   |ok s=>
    rw[hpe]at kP;simp only at kP;have hes:erS (bs j)=0:=by simp only[erS,hpe]
    have htk:=adC hpe;have htl:=aaK bs j;rw[hes]at hset;clear hcell hGr hP hs hpe hes;unfold xB at kP
    go_upto_region 7 with(first|(go_at_call 18;(with_reducible refine kP.mono ?_);rintro q w2 ⟨hb2,xN,xS,xC,rfl,oN,oS,oC⟩;obtain⟨bN,cN,rfl⟩:=(Lies.owned oN).len;obtain⟨bS,cS,rfl⟩:=(Lies.owned oS).len;obtain⟨bC,cC,rfl⟩:=(Lies.owned oC).len))
    generalize(AB s.names).length=lN at*;generalize(yh s.sizes).length=lS at*;generalize(rF s.qx).length=lC at*;have hb3:Below wr.heap.size wr (w2.alloc (.cells #[.int .i64 (s.k:Int),.int .i64 (s.n:Int),.int .i64 (s.i:Int),.int .i64 (s.c:Int),.slice bN lN cN,.slice bS lS cS,.slice bC lC cC] 55)):=hb2.alloc hb2.size _;have hR:=qf.made w2 [.int .i64 (s.k:Int),.int .i64 (s.n:Int),.int .i64 (s.i:Int),.int .i64 (s.c:Int),.slice bN lN cN,.slice bS lS cS,.slice bC lC cC] 55;have z1:=hset _ hb3;have z2:=hrc _ hb3;have z3:=hrf _ hb3;have oN3:=oN.alloc (.cells #[.int .i64 (s.k:Int),.int .i64 (s.n:Int),.int .i64 (s.i:Int),.int .i64 (s.c:Int),.slice bN lN cN,.slice bS lS cS,.slice bC lC cC] 55);have oS3:=oS.alloc (.cells #[.int .i64 (s.k:Int),.int .i64 (s.n:Int),.int .i64 (s.i:Int),.int .i64 (s.c:Int),.slice bN lN cN,.slice bS lS cS,.slice bC lC cC] 55);have oC3:=oC.alloc (.cells #[.int .i64 (s.k:Int),.int .i64 (s.n:Int),.int .i64 (s.i:Int),.int .i64 (s.c:Int),.slice bN lN cN,.slice bS lS cS,.slice bC lC cC] 55);have hgv:=hI.row.lt;have hp9:w2.heap.size≠gv:=by have:=hb2.size;omega
    replace hR:qf (w2.alloc (.cells #[.int .i64 (s.k:Int),.int .i64 (s.n:Int),.int .i64 (s.i:Int),.int .i64 (s.c:Int),.slice bN lN cN,.slice bS lS cS,.slice bC lC cC] 55)) w2.heap.size [.int .i64 (s.k:Int),.int .i64 (s.n:Int),.int .i64 (s.i:Int),.int .i64 (s.c:Int),.slice bN lN cN,.slice bS lS cS,.slice bC lC cC] 55:=hR;generalize w2.alloc (.cells #[.int .i64 (s.k:Int),.int .i64 (s.n:Int),.int .i64 (s.i:Int),.int .i64 (s.c:Int),.slice bN lN cN,.slice bS lS cS,.slice bC lC cC] 55)=w3 at z1 z2 z3 hR oN3 oS3 oC3⊢;clear hset hrc hrf hb3 hb2 c1 kP oN oS oC;generalize w2.heap.size=p9 at*;rw[ah ae]at z2;replace hR:qf (w3.setCell ⟨gv,j,none⟩ (.int .i64 ((0:Nat):Int))) p9 [.int .i64 (s.k:Int),.int .i64 (s.n:Int),.int .i64 (s.i:Int),.int .i64 (s.c:Int),.slice bN lN cN,.slice bS lS cS,.slice bC lC cC] 55:=(blk_setCell_other _ _ _ _ hp9).trans hR;replace oN3:=(dE oN3 (a:=⟨gv,j,none⟩) hgv (.int .i64 ((0:Nat):Int))).mono (show gv+1<=wr.heap.size from hgv);replace oS3:=(dE oS3 (a:=⟨gv,j,none⟩) hgv (.int .i64 ((0:Nat):Int))).mono (show gv+1<=wr.heap.size from hgv);replace oC3:=(dE oC3 (a:=⟨gv,j,none⟩) hgv (.int .i64 ((0:Nat):Int))).mono (show gv+1<=wr.heap.size from hgv)
    go_upto_region 9 with(fail)
    replace hR:qf (w3.setCell ⟨gv,j,none⟩ (.int .i64 0)) p9 [.int .i64 (s.k:Int),.int .i64 (s.n:Int),.int .i64 (s.i:Int),.int .i64 (s.c:Int),.slice bN lN cN,.slice bS lS cS,.slice bC lC cC] 55:=hR;rw[show((0:Nat):Int)=0 from rfl]at z1 oN3 oS3 oC3;generalize w3.setCell ⟨gv,j,none⟩ (.int .i64 0)=w4 at*;obtain⟨z4,z5,z6⟩:=z1;have c0:=hR.cell (i:=0) rfl;have c1:=hR.cell (i:=1) rfl;have c2:=hR.cell (i:=2) rfl;have c3:=hR.cell (i:=3) rfl;have c4:=hR.cell (i:=4) rfl;have c5:=hR.cell (i:=5) rfl;have c6:=hR.cell (i:=6) rfl;have hg4:=z5.lt;obtain⟨i0,hi0,hz0,hz1,hz2⟩:=bg Tryz.Lp
    obtain⟨bt,ct,rfl⟩:∃bt ct,u6=.slice bt (IW bs j).length ct:=by
     rcases z6.own.2 with⟨h1,h2⟩|⟨g,cap,_,h1,_⟩
     .exact⟨none,0,by rw[h1,h2]⟩
     .exact⟨_,_,h1⟩
    have sy:∀u∈([.int .i64 (s.k:Int),.int .i64 (s.n:Int),.int .i64 (s.i:Int),.int .i64 (s.c:Int),.slice bN lN cN,.slice bS lS cS,.slice bC lC cC]:List Value),u.oneCell'=true:=by intro u hu;simp only[dw,anO,or_false]at hu;rcases hu with rfl|rfl|rfl|rfl|rfl|rfl|rfl<;>rfl
    clear hR z2 z3 hI
    go_wp2_with(at_builtin;refine dF _ rfl _ _ 52 rfl (gv+1) 55 i0 (.agg #[.int .i64 0,.int .i64 0,.int .i64 0,.int .i64 0,.slice none 0 0,.slice none 0 0,.slice none 0 0]) 7 104 Tryz.underlying52 hi0 hz0 hz1 hz2 rfl au _ _ _ rfl (z6.own.alloc _) ⟨w4.heap.size,0,none⟩ 1 1 [.int .i64 (s.k:Int),.int .i64 (s.n:Int),.int .i64 (s.i:Int),.int .i64 (s.c:Int),.slice bN lN cN,.slice bS lS cS,.slice bC lC cC] rfl rfl (D_ _ _ _) sy bH ae az ?_;intro v' w5 hown5 hgrow _;obtain⟨gq,cq,rfl,_,_⟩:=hown5.form ae)
    replace hgrow:(w4.alloc (.cells #[.int .i64 (s.k:Int),.int .i64 (s.n:Int),.int .i64 (s.i:Int),.int .i64 (s.c:Int),.slice bN lN cN,.slice bS lS cS,.slice bC lC cC] 55)).grownBy w5 (Value.slice bt (IW bs j).length ct).ownBlock:=hgrow;have b5:Below (gv+1) w4 w5:=(((aA _ w4).alloc (ak _) _).mono (show gv+1<=w4.heap.size from hg4)).grown hgrow az (λk hk=>(z6.own.lt k hk).1);have t5:=(z6.keep (w':=w4.alloc (.cells #[.int .i64 (s.k:Int),.int .i64 (s.n:Int),.int .i64 (s.i:Int),.int .i64 (s.c:Int),.slice bN lN cN,.slice bS lS cS,.slice bC lC cC] 55)) (λb _ hb2=>bK _ _ b hb2)).more (s:=s) (oN3.alloc _) (oS3.alloc _) (oC3.alloc _) hgrow hown5;rw[<-htk]at t5;exact⟨⟨j+1,_,_,_,ae,ai,⟨z4.trans (rJ.of b5) ae,z5.of_block (b5.block gv (di _)),hlo,t5⟩⟩,iW⟩
  .obtain rfl:j=n:=ae;have hnl:¬((j:Int)<(j:Int)):=ae;go_wp2;exact hnext _ gv vN vS vC _ wr ⟨_,YS rfl⟩ hI
end
end Go.Proofs.Y
namespace Go.Proofs.Y
open Go.RowKit Go.Deep Go.Lf Go.Conc Go.ConcN Go.Gh Go.Hp
section
variable {X:Nat->Prop}{Y:Nat->Option Obj}{D:Nat->World->Array Event->Prop}{Stop:Goroutine->World->Prop}{w:World}{cs:List Frame}{fr:Frame}{gv n:Nat}{vt vb ve:Value}{T:Array Value}
theorem akD(rM:uo X D)(hT:TE1 gv n vt T)
  (hnext:∀T',TE1 gv n vt T'->sK Tryz.prog X Y D Stop 19 (adD T'::cs) [.code v_] ⟨#[vt]++Array.replicate 34 undef,[]⟩ w):
  sK Tryz.prog X Y D Stop 11 cs [.code V7] ⟨T,[]⟩ w:=by
 obtain⟨g,rfl⟩:=hT;unfold Tdc;rw[agQ];refine uH rM rfl (zW rM ?_);rw[abN];simp only[List.range,List.range.loop];refine qm qM rM vt jm rfl ag (λz _=>aI) ?_;walk_nrm;refine uZ rM jm rfl ax Tryz.func19 ag (c:=v_) ag (vs:=#[vt]) (n:=34) fC ag ?_;unfold adD at hnext;exact hnext _ ⟨_,YS rfl⟩
theorem agR(rM:uo X D)(hT:TE1 gv n vt T)
  (hnext:∀T',TE2 gv n vb ve T'->qR Tryz.prog X Y D Stop none [] 11 cs [.code YT] T' w):
  ∀z,qH X Y z w->ru Tryz.prog D Stop (G ((adD T).finish (.tuple #[vb,ve])) cs) z:=by
 rw[show adD T=Dn none [] 11 T (.inRegion Oe [1,2,3,4,5,6]::[.code YT])from rfl];rw[uD jm];show qR _ _ _ _ _ _ _ _ _ _ _ _;obtain⟨g,rfl⟩:=hT;unfold Tdc;walk_nrm;refine qm qM rM (.tuple #[vb,ve]) jm rfl ag (λz _=>aI) ?_;walk_nrm;refine qm qM rM vb jm rfl ag (λz _=>aI) ?_;walk_nrm;refine qm qM rM ve jm rfl ag (λz _=>aI) ?_;walk_nrm;refine qm qM rM vb jm rfl ag (λz _=>aI) ?_;walk_nrm;refine qm qM rM ve jm rfl ag (λz _=>aI) ?_;walk_nrm;exact r_ rM (hnext _ ⟨_,YS rfl⟩)
theorem aiQ(rM:uo X D)(hT:TE2 gv n vb ve T)(hE:Aj w){e:Nat}(he:(e=0/\ve=.nilIface)\/∃p,Chain w 1 ve e p)
  (hnext:∀w',rJ w.heap.size w w'->∀z,qH X Y z w'->ru Tryz.prog D Stop (G (fr.finish (.tuple #[vb,.slice (some ⟨gv,0,none⟩) n n,.int .i64 (e:Int)])) cs) z):
  sK Tryz.prog X Y D Stop 11 (fr::cs) [.code YT] ⟨T,[]⟩ w:=by
 refine Ha qM rM ag Tryz.func11 (R:=λy w'=>y=.tuple #[vb,.slice (some ⟨gv,0,none⟩) n n,.int .i64 (e:Int)]/\rJ w.heap.size w w') (λτ d=>?_) (λy v' ⟨h1,h2⟩=>h1▸hnext v' h2);have bl:rJ w.heap.size w {w with tape:=τ,drawn:=d}:=(rJ.refl _ w).tp τ d;have hE':Aj {w with tape:=τ,drawn:=d}:=hE
 have k1:Calls Tryz.prog 20 #[ve] {w with tape:=τ,drawn:=d} λr w'=>∃p:Nat,r=.returned (.tuple #[.int .i64 (e:Int),.int .i64 (p:Int)])/\Below ({w with tape:=τ,drawn:=d}:World).heap.size {w with tape:=τ,drawn:=d} w':=by
  rcases he with⟨rfl,rfl⟩|⟨p,hc⟩
  .refine(IX _).mono ?_;rintro r w' ⟨rfl,hb⟩;exact⟨0,rfl,hb⟩
  .refine(Ea 1 ae ve e p _ (Jz τ d hc) hE').mono ?_;rintro r w' ⟨rfl,hb⟩;exact⟨p,rfl,hb⟩
 generalize({w with tape:=τ,drawn:=d}:World)=wA at bl k1⊢;obtain⟨f,rfl⟩:=hT;unfold Tdc
 conv in YT=>simp only[YT,V7,uY,qo,Tryz.f11,aB]
 go_wp2_with(first|(go_at_call 20;(with_reducible refine k1.mono ?_);rintro r w1 ⟨p,rfl,hb1⟩))
 go_ret3
 exact⟨_,rfl,rfl,bl.trans (rJ.of hb1) bl.size'⟩
end
def UE(M:Nat)(sh:Nat->vH)(vb:Value)(e:Nat)(w:World):Prop:=
 (e≠0/\vb=.slice none 0 0/\(Dy M sh e\/(e=13/\Dy M sh 0/\¬∃l,Ii M sh l)))\/
 (e=0/\Dy M sh 0/\∃l gb vd,Ii M sh l/\(∀l',Ii M sh l'->l'=l)/\vb=.slice (some ⟨gb,0,none⟩) (sh 0).names.length (sh 0).names.length/\CB (sh 0).names (sh 0).sizes l gb (sh 0).names.length vd w)
theorem CB.sub{ns:List (List UInt8)}{sz:List Nat}{l:List UInt8}{g i:Nat}{vd:Nat->Value}{w w':World}(h:CB ns sz l g i vd w)(hs:Sub w w'):CB ns sz l g i vd w':=by refine⟨?_,λj hj=>O6 (h.dat j hj) hs⟩;obtain⟨c,h1,h2,h3⟩:=h.row;exact⟨c,hs.2 _ _ _ _ h1,h2,h3⟩
theorem M_{Fin:Machine->Trace->Prop}(hpre:∀m m' ops t,stepT Tryz.prog m=(.next m',ops)->Fin m' (t++ops)->Fin m t){X:Nat->Prop}{Y:Nat->Option Obj}{e:Nat}{gs:Array Goroutine}{W v0:World}{sl:Option (Nat×Nat)}{t:Trace}{qq:Nat->Nat}{fr:Frame}{cs:List Frame}{n cap:Nat}{bi:Option Addr}{bs:Nat->List UInt8}{vi:Nat->Value}{a:Addr}
  (h0:gs[0]?=some (G ((base 11).at ⟨#[.slice bi n cap]++Array.replicate 55 undef,[]⟩ [.code uY]) (fr::cs))) (hB:Fz Tryz.prog (uj X) e gs W t qq) (hs:qH X Y W v0)
  (hS:SlB v0 bi n bs vi) (hn:n<=1048576) (hGl:Gl a v0) (he:e+256<2147483648)
  (hnext:∀(e':Nat)(g:Nat->Nat)(vb:Value)(er gv:Nat)(X':Nat->Prop)(gs':Array Goroutine)(W':World)(sl':Option (Nat×Nat))(t':Trace)(q':Nat->Nat)(Y':Nat->Option Obj)(v':World),e'<=e+256->Prm (IW bs n).length g->(∀i,i+1<(IW bs n).length->(yN (IW bs n) (g i)).i<=(yN (IW bs n) (g (i+1))).i)->gs'[0]?=some (G (fr.finish (.tuple #[vb,.slice (some ⟨gv,0,none⟩) n n,.int .i64 (er:Int)])) cs)->
   Fz Tryz.prog (uj X') e' gs' W' t' q'->qH X' Y' W' v'->(∀b,X b->X' b)->(∀b,X' b->X b\/W.heap.size<=b)->Sub v0 v'->KpX X W W'->(∀i,i<n->v'.cell? ⟨gv,i,none⟩=some (.int .i64 ((erS (bs i):Nat):Int)))->UE (IW bs n).length (λi=>yN (IW bs n) (g i)) vb er v'->Fin (crowd gs' W' sl') t'):
  Fin (crowd gs W sl) t:=by
 let St:Goroutine->World->Prop:=λgr W=>∃(T:Array Value)(gv:Nat)(vN vS vC:Nat->Value)(vt:Value)(v1:World),TE1 gv n vt T/\DI v0 gv bs n n vN vS vC vt v1/\gr=G ((base 19).at ⟨#[vt]++Array.replicate 34 undef,[]⟩ [.code v_]) (adD T::fr::cs)/\qH X Y W v1
 have key:=aiN (Stop:=St) (Y:=Y) (cs:=fr::cs) (cap:=cap) (yO X) hS hn hGl (λT gv vN vS vC vt v1 a1 a2=>akD (yO X) a1 λT' a1' y hy=>.stop λd=>⟨T',gv,vN,vS,vC,vt,v1,a1',a2,rfl,hy.at d⟩);refine late (Fin:=Fin) (Shun:=uj X) (e:=e) hpre (λ_ _ _ h=>h) (λgs1 a1 W1 sl1 t1 q1 h01 hst hB1=>?_) (key W hs) W.drawn gs sl t qq h0 hB;obtain⟨T,gv,vN,vS,vC,vt,v1,hT,hI,rfl,hs1⟩:=hst W1.drawn;replace hs1:qH X Y W1 v1:=hs1;clear key hst;have hk1:=AU hs hs1 hI.bel;have O5:=tK hI.bel;have hz1:=hk1.size;obtain⟨bo,cp,rfl,hSd⟩:=hI.tk.sds (V8 bs n);have htl:=aaK bs n;refine abG hpre h01 hB1 hs1 hSd ae (λi hi=>V8 bs n _ (by simp[yN,aY hi])) he ?_;intro e2 g y X2 gs2 W2 sl2 t2 q2 Y2 v2 he2 hP UA h02 hB2 hs2 hXa hXb hsub2 hk2 hA;have adE:=O5.trans hsub2;have hE2:Aj v2:=(hGl.sub adE).aiO;have hX2:∀b,X2 b->X b\/W.heap.size<=b:=λb hb=>(hXb b hb).imp id λh=>ae
 have aiR:∀v3,Sub v2 v3->∀i,i<n->v3.cell? ⟨gv,i,none⟩=some (.int .i64 ((erS (bs i):Nat):Int)):=λv3 h3 i hi=>by have:=hI.row.cell (i:=i) hi;rw[aj hi]at this;exact(hsub2.trans h3).cell this
 have fin:∀(vb ve:Value)(er:Nat),y=.tuple #[vb,ve]->((er=0/\ve=.nilIface)\/∃p,Chain v2 1 ve er p)->UE (IW bs n).length (λi=>yN (IW bs n) (g i)) vb er v2->(∀v3,Sub v2 v3->UE (IW bs n).length (λi=>yN (IW bs n) (g i)) vb er v3)->Fin (crowd gs2 W2 sl2) t2:=λvb ve er hy hv _ hR=>by
  subst hy
  let St4:Goroutine->World->Prop:=λgr W=>∃v3,rJ v2.heap.size v2 v3/\gr=G (fr.finish (.tuple #[vb,.slice (some ⟨gv,0,none⟩) n n,.int .i64 (er:Int)])) cs/\qH X2 Y2 W v3
  have UC:=agR (Stop:=St4) (Y:=Y2) (cs:=fr::cs) (w:=v2) (vb:=vb) (ve:=ve) (yO X2) hT (λT4 hT4=>FK.2 (aiQ (Stop:=St4) (yO X2) hT4 hE2 hv (λw' b1 z hz=>.stop λd=>⟨w',b1,rfl,hz.at d⟩)));refine late (Fin:=Fin) (Shun:=uj X2) (e:=e2) hpre (λ_ _ _ h=>h) (λgs4 a4 W4 sl4 t4 q4 h04 hst hB4=>?_) (UC W2 hs2) W2.drawn gs2 sl2 t2 q2 h02 hB2;obtain⟨v3,b1,rfl,b3⟩:=hst W4.drawn;replace b3:qH X2 Y2 W4 v3:=b3;have hs3:=tK b1;exact hnext e2 g vb er gv X2 gs4 W4 sl4 t4 q4 Y2 v3 he2 hP UA h04 hB4 b3 hXa hX2 (adE.trans hs3) ((hk1.trans hk2 λx hx=>.inl hx).trans (AU hs2 b3 b1) hX2) (aiR v3 hs3) (hR v3 hs3)
 rcases hA with⟨er,ev,p,hE,hne,hy,hc⟩|⟨hE,hno,ev,p,hy,hc⟩|⟨hE,l,gb,vd,hF,hU,hy,hC⟩
 .exact fin _ _ er hy (.inr ⟨p,hc⟩) (.inl ⟨hne,rfl,.inl hE⟩) λv3 _=>.inl ⟨hne,rfl,.inl hE⟩
 .exact fin _ _ 13 hy (.inr ⟨p,hc⟩) (.inl ⟨au,rfl,.inr ⟨rfl,hE,hno⟩⟩) λv3 _=>.inl ⟨au,rfl,.inr ⟨rfl,hE,hno⟩⟩
 .exact fin _ _ 0 hy (.inl ⟨rfl,rfl⟩) (.inr ⟨rfl,hE,l,gb,vd,hF,hU,rfl,hC⟩) λv3 h3=>.inr ⟨rfl,hE,l,gb,vd,hF,hU,rfl,hC.sub h3⟩
end Go.Proofs.Y
namespace Go.Proofs.Y
open Go.RowKit Go.Deep
structure BlS(w:World)(bo:Option Addr)(m:Nat)(ns D:Nat->List UInt8)(vd:Nat->Value):Prop where
 cells:0<m->∃b o,bo=some ⟨b,o,none⟩/\∀i,i<m->w.cell? ⟨b,o+i*2,none⟩=some (.string ⟨(ns i).toArray⟩)/\w.cell? ⟨b,o+i*2+1,none⟩=some (vd i)
 dat:∀i,i<m->Lies w (vd i) (rF (D i))
theorem Q5(m ca cb:Nat)(ba bb:Option Addr)(ns D:Nat->List UInt8)(va vb:Nat->Value)(w:World)(hm:m<=1048576)(ha:BlS w ba m ns D va)(hb:BlS w bb m ns D vb):
  Calls Tryz.prog 12 #[.slice ba m ca,.slice bb m cb] w λr w'=>r=.returned (.bool true)/\∃q,w'=w.drewN q:=by
 go_enter Tryz.func12,Tryz.ntmps12;go_wp2
 go_loopw [5] (λvi wr=>∃j q:Nat,j<=m/\vi=.int .i64 (j:Int)/\wr=w.drewN q) (λvi _=>m-(intOf vi).toNat)
 case atStart=>exact⟨0,0,ae,rfl,rfl⟩
 case round=>
  obtain⟨j,q,hj,rfl,rfl⟩:=hrel;by_cases hlt:j<m
  .have hlt':(j:Int)<(m:Int):=ae;obtain⟨b,o,rfl,hc⟩:=ha.cells ae;obtain⟨b',o',rfl,hc'⟩:=hb.cells ae;obtain⟨c0,c1⟩:=hc j hlt;obtain⟨d0,d1⟩:=hc' j hlt;replace c0:(w.drewN q).cell? _=_:=c0;replace c1:(w.drewN q).cell? _=_:=c1;replace d0:(w.drewN q).cell? _=_:=d0;replace d1:(w.drewN q).cell? _=_:=d1;have sa:=((ha.dat j hlt).drewN (q+1)).str;have sb:=((hb.dat j hlt).drewN (q+1)).str;obtain⟨pa,xa,ea⟩:=(ha.dat j hlt).len;obtain⟨pb,xb,eb⟩:=(hb.dat j hlt).len;rw[ea]at c1 sa;rw[eb]at d1 sb;clear ha hb hc hc' ea eb;generalize(rF (D j)).length=ld at*;have hS:(w.drewN (q+1)).cell? ⟨b,o+j*2,none⟩=some (.string ⟨(ns j).toArray⟩)/\(w.drewN (q+1)).cell? ⟨b,o+j*2+1,none⟩=some (.slice pa ld xa)/\(w.drewN (q+1)).cell? ⟨b',o'+j*2,none⟩=some (.string ⟨(ns j).toArray⟩)/\(w.drewN (q+1)).cell? ⟨b',o'+j*2+1,none⟩=some (.slice pb ld xb)/\(convert 34 9 (.slice pa ld xa)).run Tryz.prog (w.drewN (q+1))=.ok (.string ⟨(D j).toArray⟩) (w.drewN (q+1))/\(convert 34 9 (.slice pb ld xb)).run Tryz.prog (w.drewN (q+1))=.ok (.string ⟨(D j).toArray⟩) (w.drewN (q+1))/\w.drewN (q+1)=w.drewN (q+1):=⟨c0,c1,d0,d1,sa,sb,rfl⟩;go_wp2
   go_region_held3 (λw'=>w'.cell? ⟨b,o+j*2,none⟩=some (.string ⟨(ns j).toArray⟩)/\w'.cell? ⟨b,o+j*2+1,none⟩=some (.slice pa ld xa)/\w'.cell? ⟨b',o'+j*2,none⟩=some (.string ⟨(ns j).toArray⟩)/\w'.cell? ⟨b',o'+j*2+1,none⟩=some (.slice pb ld xb)/\(convert 34 9 (.slice pa ld xa)).run Tryz.prog w'=.ok (.string ⟨(D j).toArray⟩) w'/\(convert 34 9 (.slice pb ld xb)).run Tryz.prog w'=.ok (.string ⟨(D j).toArray⟩) w'/\w'=w.drewN (q+1)) (first|exact hS|(refine⟨?_,?_,?_,?_,?_,?_,?_⟩<;>assumption)|go_keep) (fail)
   go_wp2;exact⟨⟨j+1,q+1,ae,ai,rfl⟩,iW⟩
  .obtain rfl:j=m:=ae;have hnl:¬((j:Int)<(j:Int)):=ae;go_wp2;go_ret;exact⟨rfl,q,rfl⟩
end Go.Proofs.Y
namespace Go.Proofs.Y
open Go.RowKit Go.Deep Go.Lf Go.Conc Go.ConcN Go.Gh Go.Hp
open Go.ConcR (Payload WgAt wgBlock)
theorem O7(c:Nat)(qx:List UInt8):∀j,(rU c qx j).length<=j*(c+8)
 |0=>by simp[rU]
 |j+1=>by
  rw[Il,aQ,jZ];have h1:=O7 c qx j
  have h2:(yg c qx j).length<=c+8:=by unfold yg;rw[rY];unfold part;rw[gu];omega
  omega
theorem aiS{s:Sh}(h1:s.Fine)(h3:s.Few)(h4:s.Ux):0<(OY s).length/\(OY s).length<=10000000000:=by
 have f:=O7 s.C.toNat s.qx (Fg s.C.toNat s.qx.length);have hk:1<=s.K.toNat:=by have:=h1.k1;omega
 have hl:s.qx.length<=65536:=by have a1:=B_ hk (tot s.zs);have a2:=h3.bytes;have a3:s.qx.length=_:=h4;omega
 have hc1:1<=s.C.toNat:=by have:=h1.c1;omega
 have hc2:s.C.toNat<=65536:=by have:=h1.c2;omega
 have hn:Fg s.C.toNat s.qx.length<=65536:=by have:=B_ hc1 s.qx.length;unfold sF at this;unfold Fg;omega
 have hm:=FD s;have hm2:=h3.Lj;have hp:=jG hn (show s.C.toNat+8<=65544 by omega);unfold OY;simp only[aQ,rY,Jt,hm,bM,dA];omega
end Go.Proofs.Y
namespace Go.Proofs.Y
open Go.RowKit Go.Deep Go.Hp
theorem aaL{bs:Nat->List UInt8}{s:Nat->vH}:∀n,(∀i,i<n->qP (bs i)=.ok (s i))->IW bs n=(List.range n).map s
 |0,_=>rfl
 |n+1,h=>by rw[adC (h n ae),aaL n λi hi=>h i ae,dm,iC];rfl
theorem adF{s:Nat->vH}{n i:Nat}(h:i<n):yN ((List.range n).map s) i=s i:=by simp[yN,h]
section
variable {K N C m:Nat}{f:Nat->qQ}{d:qQ->List UInt8}
def Fh(K N C m:Nat)(f:Nat->qQ)(d:qQ->List UInt8)(i:Nat):vH:=SI (xy K N C m f d i)
theorem abO(hd:∀j,j<m->(d (f j)).length=(f j).l):((qC m f).map Int.toNat).sum=(qW (λj=>d (f j)) m).length:=Dz d f m hd
theorem adG(i:Nat):(Fh K N C m f d i).i=i:=by simp[Fh,SI,xy]
theorem adH(i j:Nat):Oc (Fh K N C m f d i) (Fh K N C m f d j)=true:=by simp[Oc,Fh,SI,xy]
theorem V9{M:Nat}{x:Nat->Nat}(hd:∀j,j<m->(d (f j)).length=(f j).l):Ii M (λi=>Fh K N C m f d (x i)) (qW (λj=>d (f j)) m):=by have hs:=abO (f:=f) hd;refine⟨hs.symm,λt ht=>?_⟩;show zn _ _ _ _=zn K (sF K ((qC m f).map Int.toNat).sum) _ (Fh K N C m f d (x t)).i;rw[hs,adG]
theorem aaM{M:Nat}{x:Nat->Nat}(hx:∀i j,i<M->j<M->i≠j->x i≠x j){e:Nat}(hE:Dy M (λi=>Fh K N C m f d (x i)) e)(hK:1<=K):(e=0/\K<=M)\/(e=12/\M<K):=by
 have hA:Ak M λi=>Fh K N C m f d (x i):=λi hi=>adH _ _
 have hD:¬Dup M λi=>Fh K N C m f d (x i):=λ⟨t,h1,h2⟩=>hx (t+1) t h1 ae ae (by simpa only[adG]using h2);rcases hE with⟨rfl,h⟩|⟨rfl,_,h⟩|⟨rfl,_,_,h⟩|⟨rfl,_,_,_,h⟩
 .exact absurd hA h
 .exact absurd h hD
 .refine .inr ⟨rfl,?_⟩;rcases h with h|h
  .omega
  .exact h
 .exact .inl ⟨rfl,h⟩
theorem agS{M:Nat}{x:Nat->Nat}{vb:Value}{er:Nat}{w:World}(hd:∀j,j<m->(d (f j)).length=(f j).l)(hx:∀i j,i<M->j<M->i≠j->x i≠x j)(hK:1<=K)(hR:UE M (λi=>Fh K N C m f d (x i)) vb er w):
  (K<=M->er=0/\∃gb vd,vb=.slice (some ⟨gb,0,none⟩) m m/\CB (qA m f) ((qC m f).map Int.toNat) (qW (λj=>d (f j)) m) gb m vd w)/\(M<K->er=12/\vb=.slice none 0 0):=by
 rcases hR with⟨hne,hv,hE|⟨_,hE,hno⟩⟩|⟨rfl,hE,l,gb,vd,hF,hU,hv,hC⟩
 .rcases aaM hx hE hK with⟨h,_⟩|⟨h,h2⟩
  .exact absurd h hne
  .exact⟨λh3=>ae,λ_=>⟨h,hv⟩⟩
 .exact absurd ⟨_,V9 hd⟩ hno
 .rcases aaM hx hE hK with⟨_,h2⟩|⟨h,_⟩
  .refine⟨λ_=>⟨rfl,gb,vd,?_,?_⟩,λh3=>ae⟩
   .rw[hv];show Value.slice _ (qA m f).length (qA m f).length=_;rw[uu]
   .have e:=hU _ (V9 hd);rw[e];have hn:(Fh K N C m f d (x 0)).names=qA m f:=rfl;have hz:(Fh K N C m f d (x 0)).sizes=(qC m f).map Int.toNat:=rfl;have hl:=uu m f;rw[hn,hz,hl]at hC;exact hC
  .cases h
theorem join_mono(D:Nat->List UInt8):∀{m j:Nat},j<m->(qW D j).length+(D j).length<=(qW D m).length
 |0,_,h=>by omega
 |m+1,j,h=>by
  show _<=(qW D m++D m).length;rw[aQ];rcases aT j m with h1|h1
  .have:=join_mono D h1;omega
  .obtain rfl:j=m:=ae;omega
theorem SQ(D:Nat->List UInt8):∀{m j:Nat},j<m->((qW D m).drop (qW D j).length).take (D j).length=D j
 |0,_,h=>by omega
 |m+1,j,h=>by
  show((qW D m++D m).drop _).take _=_;rcases aT j m with h1|h1
  .have h2:=join_mono D h1;rw[List.drop_append_of_le_length ae,anN aoG];exact SQ D h1
  .obtain rfl:j=m:=ae;rw[List.drop_left,List.take_length]
theorem V_(hd:∀j,j<m->(d (f j)).length=(f j).l):∀j,j<=m->pre ((qC m f).map Int.toNat) j=(qW (λj=>d (f j)) j).length
 |0,_=>by simp[pre,qW]
 |j+1,h=>by rw[FP (by rw[iK,wP];omega),V_ hd j ae];show _=(qW (λj=>d (f j)) j++d (f j)).length;rw[aQ,hd j ae];simp[qC,show j<m by omega]
theorem agT(hd:∀j,j<m->(d (f j)).length=(f j).l){j:Nat}(hj:j<m):YU ((qC m f).map Int.toNat) (qW (λj=>d (f j)) m) j=d (f j):=by unfold YU;rw[V_ hd j ae,show((qC m f).map Int.toNat).getD j 0=(d (f j)).length by rw[hd j hj];simp[qC,hj]];exact SQ (λj=>d (f j)) hj
theorem agU{w:World}{gb:Nat}{vd:Nat->Value}(hd:∀j,j<m->(d (f j)).length=(f j).l)(h:CB (qA m f) ((qC m f).map Int.toNat) (qW (λj=>d (f j)) m) gb m vd w):BlS w (some ⟨gb,0,none⟩) m (λi=>(f i).k) (λi=>d (f i)) vd:=by
 have r:=h.row;rw[uu]at r;refine⟨λ_=>⟨gb,0,rfl,λi hi=>?_⟩,λi hi=>?_⟩
 .have c0:=r.cell (i:=i*2) ae;have c1:=r.cell (i:=i*2+1) ae;simp only[show i*2/2=i by omega,show(i*2+1)/2=i by omega,hi,aF,show i*2%2=0 by omega,show¬(i*2+1)%2=0 by omega,aU]at c0 c1;rw[aS];refine⟨c0.trans ?_,c1⟩;simp[qV,qA,hi]
 .have:=Lies.owned (h.dat i hi);rw[agT hd hi]at this;exact this
