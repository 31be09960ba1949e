import Derived.Test.YtnbflnamlpodcaaGreatDoorCnJ
set_option maxHeartbeats 8000000
set_option maxRecDepth 100000
namespace Go.Proofs.Y
open Go.Proofs.Tryz
open Go.RowKit Go.Deep Go.Lf Go.Conc Go.Hp
theorem Tryz.af4:(prog.info? 29).map (λi=>(i.zero,i.size,i.bytes))=some (some (.int .i64 0),1,8):=aj
theorem af5(n:Nat)(hn:n<=1048576)(w:ah):(Instr.makeSlice 36 (.int .i64 (n:Int)) (.int .i64 (n:Int))).run prog w=.ok (.slice (some ⟨w.heap.size,0,none⟩) n n) (w.alloc (.cells (madeCells #[.int .i64 0] n) 29)):=by obtain⟨i0,Ak,yz,xA,wH⟩:=dm Tryz.af4;have:=jQ (P:=prog) w 36 29 i0 _ underlying36 Ak yz .i64 .i64 n n ag ag ik ag;rw[xA]at this;simp only[iH,je]at this;exact this
structure SlB(w:ah)(bi:aY)(n:Nat)(bs:Nat->ak)(vi:Nat->ai):Prop where
 cells:0<n->∃b o,bi=some ⟨b,o,none⟩/\∀i,i<n->w.cell? ⟨b,o+i,none⟩=some (vi i)
 IU:∀i,i<n->qU w (vi i) (sJ (bs i))/\Oz (vi i) (bs i).length/\(bs i).length<=4611686018427387904
theorem SlB.sub{w w':ah}{bi:aY}{n:Nat}{bs:Nat->ak}{vi:Nat->ai}(h:SlB w bi n bs vi)(hs:Sub w w'):SlB w' bi n bs vi:=
 ⟨λhn=>by obtain⟨b,o,e,hc⟩:=h.cells hn;exact⟨b,o,e,λi hi=>hs.cell (hc i hi)⟩,λi hi=>⟨hs.lies (h.IU i hi).1,(h.IU i hi).2⟩⟩
theorem aqI{w:ah}{v:ai}{l:ak}(h:qU w v (sJ l))(hV:Oz v l.length):Pt w (λ_=>False) v l:=by
 rcases hV with⟨rfl,h0⟩|⟨b,off,cap,rfl,hc⟩
 .exact .inl ⟨rfl,l7 h0⟩
 .refine .inr ⟨⟨b,off,none⟩,cap,rfl,hc,λ_=>id,λj hj=>?_⟩;obtain⟨ba,Wn,e,_,hh⟩:=h;obtain⟨b',ahO,e',h2⟩:=hh j _ (wJ hj);obtain⟨e1,_,_⟩:=Value.slice.inj e;rw[<-e1]at e';cases e';rw[Addr.add_mid];exact h2
structure DI(w:ah)(gv:Nat)(bs:Nat->ak)(n j:Nat)(vN vS vC:Nat->ai)(vt:ai)(wr:ah):Prop where
 AO:sH w.heap.size w wr
 row:wr.rowIs gv 29 n (λi=>if i<j then .int .i64 ((erS (bs i):Nat):Int)else .int .i64 0)
 lo:w.heap.size<=gv
 tk:Tk (gv+1) (Nw bs j) vN vS vC vt wr
theorem DI.set{w:ah}{gv:Nat}{bs:Nat->ak}{n j:Nat}{vN vS vC:Nat->ai}{vt:ai}{wr w3:ah}(h:DI w gv bs n j vN vS vC vt wr)(hb:Below wr.heap.size wr w3):
  sH w.heap.size w (w3.setCell ⟨gv,j,none⟩ (.int .i64 ((erS (bs j):Nat):Int)))/\(w3.setCell ⟨gv,j,none⟩ (.int .i64 ((erS (bs j):Nat):Int))).rowIs gv 29 n (λi=>if i<j+1 then .int .i64 ((erS (bs i):Nat):Int)else .int .i64 0)/\Tk (gv+1) (Nw bs j) vN vS vC vt (w3.setCell ⟨gv,j,none⟩ (.int .i64 ((erS (bs j):Nat):Int))):=by
 have r:=h.row.of_block (hb.block gv h.row.lt);have r1:=r.set j (.int .i64 ((erS (bs j):Nat):Int));refine⟨Below.setCell (h.AO.trans (sH.of hb) h.AO.sN) (p:=⟨gv,j,none⟩) h.lo _,r1.congr λi hi=>?_,h.tk.Bz λb uu tX=>?_⟩
 .by_cases e:i=j
  .subst e;rw[ay rfl,ay ag]
  .rw[au e];by_cases e2:i<j
   .rw[ay e2,ay ag]
   .rw[au e2,au ag]
 .rw[blk_setCell_other _ _ _ _ (show b≠(⟨gv,j,none⟩:Addr).block from λe=>by simp at e;omega)];exact hb.block b tX
section
variable {X:Nat->Prop}{Y:Nat->aV}{D:Nat->ah->aH->Prop}{Stop:aG->ah->Prop}{w:ah}{cs:aP}{n cap:Nat}{bi:aY}{bs:Nat->ak}{vi:Nat->ai}{a:Addr}
theorem aop(rM:uU X D)(hS:SlB w bi n bs vi)(hn:n<=1048576)(hG:Gl a w)
  (qJ:∀(T:aB)(gv:Nat)(vN vS vC:Nat->ai)(vt:ai)(w':ah),TE1 gv n vt T->DI w gv bs n n vN vS vC vt w'->
   uA prog X Y D Stop 11 cs [.code aaI] ⟨T,[]⟩ w'):
  uA prog X Y D Stop 11 cs [.code yG] ⟨#[.slice bi n cap]++Array.replicate 55 undef,[]⟩ w:=by
 rw[af6];simp only[dR,dQ,dM,dP,dA,bT];refine rf qP rM aj rfl alK λR hR τ d'=>?_
 have bl:sH w.heap.size w {w with tape:=τ,drawn:=d'}:=(sH.refl _ w).tp τ d';generalize({w with tape:=τ,drawn:=d'}:ah)=wA at bl⊢;simp only[qM,yG,Tryz.f11,aQ];go_wp2;refine rf qP rM aj rfl alK λR hR τ d'=>?_
 replace bl:=bl.tp τ d';generalize({wA with tape:=τ,drawn:=d'}:ah)=wB at bl⊢;simp only[qM,qA,yG,Tryz.f11,aQ];have mk:=af5 n hn wB;have r0:=World.rowIs_made wB (.int .i64 0) n 29;have b0:sH w.heap.size w (wB.alloc (.cells (madeCells #[.int .i64 0] n) 29)):=bl.trans (sH.of ((aT _ _).alloc (az _) _)) bl.sN;have hlo:=bl.sN;go_wp2;clear mk;generalize wB.alloc (.cells (madeCells #[.int .i64 0] n) 29)=wC at r0 b0⊢;generalize wB.heap.size=gv at*;refine rf qP rM aj rfl alK λR hR τ d'=>?_
 replace b0:=b0.tp τ d';replace r0:World.rowIs ({wC with tape:=τ,drawn:=d'}:ah) _ _ _ _:=r0;generalize({wC with tape:=τ,drawn:=d'}:ah)=wD at b0 r0⊢;simp only[qM,qA,yG,Tryz.f11,aQ];go_wp2;refine rf qP rM aj rfl alK λR hR τ d'=>?_
 replace b0:=b0.tp τ d';replace r0:World.rowIs ({wD with tape:=τ,drawn:=d'}:ah) _ _ _ _:=r0;generalize({wD with tape:=τ,drawn:=d'}:ah)=wE at b0 r0⊢;simp only[qM,qA,yG,Tryz.f11,aQ];have D0:DI w gv bs n 0 (λ_=>undef) (λ_=>undef) (λ_=>undef) (.slice none 0 0) wE:=⟨b0,r0.congr λi hi=>iq,hlo,dK _ _ _ _,λi hi=>absurd hi (by simp[Nw]),λi hi=>absurd hi (by simp[Nw]),λi hi=>absurd hi (by simp[Nw])⟩;go_wp2
 go_loopw [6,7,8,9,10,11,21] (λv6 _ _ _ _ _ vj wr=>∃(j:Nat)(vN vS vC:Nat->ai),j<=n/\vj=.int .i64 (j:Int)/\DI w gv bs n j vN vS vC v6 wr) (λ_ _ _ _ _ _ vj _=>n-(intOf vj).toNat)
 case atStart=>exact⟨0,_,_,_,ag,rfl,D0⟩
 case round=>
  clear D0 r0 b0;obtain⟨j,vN,vS,vC,hj,rfl,hI⟩:=hrel;by_cases qK:j<n
  .have Am:(j:Int)<(n:Int):=ag;have hs:=tq hI.AO;obtain⟨b,o,rfl,hcell⟩:=hS.cells ag;have c1:=hs.cell (hcell j qK);have hGr:=hG.sub hs;have hP:=aqI (hs.lies (hS.IU j qK).1) (hS.IU j qK).2.1;have kP:=ac8 (bs j) (vi j) wr hP (hS.IU j qK).2.2 hGr.tab hGr.pow hGr.big a hGr.early hGr.aoq;unfold Qq at kP;have Jf:=λw3 hb=>hI.set (w3:=w3) hb
   have hrc:=λ(w3:ah)(hb:Below wr.heap.size wr w3)=>(hI.row.of_block (hb.block gv hI.row.lt)).cell (i:=j) qK;have hrf:=λ(w3:ah)(hb:Below wr.heap.size wr w3)=>(hI.row.of_block (hb.block gv hI.row.lt)).frozen j;cases Ej:qY (bs j)with
   |error e=>
    rw[Ej]at kP;simp only at kP;have hes:erS (bs j)=e.1:=by simp only[erS,Ej]
    have hne:=aaJ Ej;have at1:¬((e.1:Int)=0):=ag;have htk:=ah1 Ej;rw[hes]at Jf;clear hcell hGr hP hs Ej hes;unfold Ep zi at kP;generalize e.1=e1 at*;generalize e.2=e2 at*
    go_upto_region 7 with(first|(go_at_call 18;(with_reducible refine kP.mono ?_);rintro q w2 ⟨tX,rfl⟩))
    have wI:Below wr.heap.size wr (w2.alloc (.cells #[.int .i64 0,.int .i64 0,.int .i64 0,.int .i64 0,.slice none 0 0,.slice none 0 0,.slice none 0 0] 55)):=tX.alloc tX.size _;have z1:=Jf _ wI;have z2:=hrc _ wI;have z3:=hrf _ wI;generalize w2.alloc (.cells #[.int .i64 0,.int .i64 0,.int .i64 0,.int .i64 0,.slice none 0 0,.slice none 0 0,.slice none 0 0] 55)=w3 at z1 z2 z3⊢;clear Jf hrc hrf wI tX c1 kP;generalize w2.heap.size=p9;rw[au ag]at z2;go_wp2;obtain⟨z4,z5,z6⟩:=z1;exact⟨⟨j+1,vN,vS,vC,ag,ax,⟨z4,z5,hI.lo,by rw[htk];exact z6⟩⟩,gG⟩
   |ok s=>
    rw[Ej]at kP;simp only at kP;have hes:erS (bs j)=0:=by simp only[erS,Ej]
    have htk:=ah2 Ej;have Y9:=ae0 bs j;rw[hes]at Jf;clear hcell hGr hP hs Ej hes;unfold zi at kP
    go_upto_region 7 with(first|(go_at_call 18;(with_reducible refine kP.mono ?_);rintro q w2 ⟨tX,xN,xS,xC,rfl,oN,oS,oC⟩;obtain⟨bN,cN,rfl⟩:=(qU.owned oN).len;obtain⟨bS,cS,rfl⟩:=(qU.owned oS).len;obtain⟨bC,cC,rfl⟩:=(qU.owned oC).len))
    generalize(DT s.names).length=lN at*;generalize(zV s.sizes).length=lS at*;generalize(sJ s.qH).length=lC at*;have wI:Below wr.heap.size wr (w2.alloc (.cells #[.int .i64 (s.k:Int),.int .i64 (s.n:Int),.int .i64 (s.i:Int),.int .i64 (s.c:Int),.slice bN lN cN,.slice bS lS cS,.slice bC lC cC] 55)):=tX.alloc tX.size _;have hR:=ql.made w2 [.int .i64 (s.k:Int),.int .i64 (s.n:Int),.int .i64 (s.i:Int),.int .i64 (s.c:Int),.slice bN lN cN,.slice bS lS cS,.slice bC lC cC] 55;have z1:=Jf _ wI;have z2:=hrc _ wI;have z3:=hrf _ wI;have oN3:=oN.alloc (.cells #[.int .i64 (s.k:Int),.int .i64 (s.n:Int),.int .i64 (s.i:Int),.int .i64 (s.c:Int),.slice bN lN cN,.slice bS lS cS,.slice bC lC cC] 55);have oS3:=oS.alloc (.cells #[.int .i64 (s.k:Int),.int .i64 (s.n:Int),.int .i64 (s.i:Int),.int .i64 (s.c:Int),.slice bN lN cN,.slice bS lS cS,.slice bC lC cC] 55);have oC3:=oC.alloc (.cells #[.int .i64 (s.k:Int),.int .i64 (s.n:Int),.int .i64 (s.i:Int),.int .i64 (s.c:Int),.slice bN lN cN,.slice bS lS cS,.slice bC lC cC] 55);have hgv:=hI.row.lt;have hp9:w2.heap.size≠gv:=by have:=tX.size;omega
    replace hR:ql (w2.alloc (.cells #[.int .i64 (s.k:Int),.int .i64 (s.n:Int),.int .i64 (s.i:Int),.int .i64 (s.c:Int),.slice bN lN cN,.slice bS lS cS,.slice bC lC cC] 55)) w2.heap.size [.int .i64 (s.k:Int),.int .i64 (s.n:Int),.int .i64 (s.i:Int),.int .i64 (s.c:Int),.slice bN lN cN,.slice bS lS cS,.slice bC lC cC] 55:=hR;generalize w2.alloc (.cells #[.int .i64 (s.k:Int),.int .i64 (s.n:Int),.int .i64 (s.i:Int),.int .i64 (s.c:Int),.slice bN lN cN,.slice bS lS cS,.slice bC lC cC] 55)=w3 at z1 z2 z3 hR oN3 oS3 oC3⊢;clear Jf hrc hrf wI tX c1 kP oN oS oC;generalize w2.heap.size=p9 at*;rw[au ag]at z2;replace hR:ql (w3.setCell ⟨gv,j,none⟩ (.int .i64 ((0:Nat):Int))) p9 [.int .i64 (s.k:Int),.int .i64 (s.n:Int),.int .i64 (s.i:Int),.int .i64 (s.c:Int),.slice bN lN cN,.slice bS lS cS,.slice bC lC cC] 55:=(blk_setCell_other _ _ _ _ hp9).trans hR;replace oN3:=(eQ oN3 (a:=⟨gv,j,none⟩) hgv (.int .i64 ((0:Nat):Int))).mono (show gv+1<=wr.heap.size from hgv);replace oS3:=(eQ oS3 (a:=⟨gv,j,none⟩) hgv (.int .i64 ((0:Nat):Int))).mono (show gv+1<=wr.heap.size from hgv);replace oC3:=(eQ oC3 (a:=⟨gv,j,none⟩) hgv (.int .i64 ((0:Nat):Int))).mono (show gv+1<=wr.heap.size from hgv)
    go_upto_region 9 with(fail)
    replace hR:ql (w3.setCell ⟨gv,j,none⟩ (.int .i64 0)) p9 [.int .i64 (s.k:Int),.int .i64 (s.n:Int),.int .i64 (s.i:Int),.int .i64 (s.c:Int),.slice bN lN cN,.slice bS lS cS,.slice bC lC cC] 55:=hR;rw[show((0:Nat):Int)=0 from rfl]at z1 oN3 oS3 oC3;generalize w3.setCell ⟨gv,j,none⟩ (.int .i64 0)=w4 at*;obtain⟨z4,z5,z6⟩:=z1;have c0:=hR.cell (i:=0) rfl;have c1:=hR.cell (i:=1) rfl;have c2:=hR.cell (i:=2) rfl;have c3:=hR.cell (i:=3) rfl;have c4:=hR.cell (i:=4) rfl;have c5:=hR.cell (i:=5) rfl;have c6:=hR.cell (i:=6) rfl;have hg4:=z5.lt;obtain⟨i0,Ak,yz,xA,wH⟩:=dm Tryz.Qr
    obtain⟨bt,ct,rfl⟩:∃bt ct,u6=.slice bt (Nw bs j).length ct:=by
     rcases z6.own.2 with⟨h1,h2⟩|⟨g,cap,_,h1,_⟩
     .exact⟨none,0,by rw[h1,h2]⟩
     .exact⟨_,_,h1⟩
    have sy:∀u∈([.int .i64 (s.k:Int),.int .i64 (s.n:Int),.int .i64 (s.i:Int),.int .i64 (s.c:Int),.slice bN lN cN,.slice bS lS cS,.slice bC lC cC]:aK),u.oneCell'=true:=by intro u hu;simp only[dX,avU,or_false]at hu;rcases hu with rfl|rfl|rfl|rfl|rfl|rfl|rfl<;>rfl
    clear hR z2 z3 hI
    go_wp2_with(at_builtin;refine eP _ rfl _ _ 52 rfl (gv+1) 55 i0 (.agg #[.int .i64 0,.int .i64 0,.int .i64 0,.int .i64 0,.slice none 0 0,.slice none 0 0,.slice none 0 0]) 7 104 underlying52 Ak yz xA wH rfl aC _ _ _ rfl (z6.own.alloc _) ⟨w4.heap.size,0,none⟩ 1 1 [.int .i64 (s.k:Int),.int .i64 (s.n:Int),.int .i64 (s.i:Int),.int .i64 (s.c:Int),.slice bN lN cN,.slice bS lS cS,.slice bC lC cC] rfl rfl (Hq _ _ _) sy dB ag aS ?_;intro v' w5 Hf sO _;obtain⟨gq,cq,rfl,_,_⟩:=Hf.form ag)
    replace sO:(w4.alloc (.cells #[.int .i64 (s.k:Int),.int .i64 (s.n:Int),.int .i64 (s.i:Int),.int .i64 (s.c:Int),.slice bN lN cN,.slice bS lS cS,.slice bC lC cC] 55)).grownBy w5 (Value.slice bt (Nw bs j).length ct).ownBlock:=sO;have b5:Below (gv+1) w4 w5:=(((aT _ w4).alloc (az _) _).mono (show gv+1<=w4.heap.size from hg4)).grown sO aS (λk hk=>(z6.own.lt k hk).1);have t5:=(z6.Bz (w':=w4.alloc (.cells #[.int .i64 (s.k:Int),.int .i64 (s.n:Int),.int .i64 (s.i:Int),.int .i64 (s.c:Int),.slice bN lN cN,.slice bS lS cS,.slice bC lC cC] 55)) (λb _ tX=>dI _ _ b tX)).more (s:=s) (oN3.alloc _) (oS3.alloc _) (oC3.alloc _) sO Hf;rw[<-htk]at t5;exact⟨⟨j+1,_,_,_,ag,ax,⟨z4.trans (sH.of b5) ag,z5.of_block (b5.block gv (dV _)),hlo,t5⟩⟩,gG⟩
  .obtain rfl:j=n:=ag;have Hg:¬((j:Int)<(j:Int)):=ag;go_wp2;exact qJ _ gv vN vS vC _ wr ⟨_,ac9 rfl⟩ hI
end
end Go.Proofs.Y
namespace Go.Proofs.Y
open Go.Proofs.Tryz
open Go.RowKit Go.Deep Go.Lf Go.Conc Go.ConcN Go.Gh Go.Hp
section
variable {X:Nat->Prop}{Y:Nat->aV}{D:Nat->ah->aH->Prop}{Stop:aG->ah->Prop}{w:ah}{cs:aP}{fr:aJ}{gv n:Nat}{vt vb ve:ai}{T:aB}
theorem aqJ(rM:uU X D)(hT:TE1 gv n vt T)
  (qJ:∀T',TE1 gv n vt T'->uA prog X Y D Stop 19 (ah3 T'::cs) [.code yj] ⟨#[vt]++Array.replicate 34 undef,[]⟩ w):
  uA prog X Y D Stop 11 cs [.code aaI] ⟨T,[]⟩ w:=by
 obtain⟨g,rfl⟩:=hT;unfold Tdc;rw[alL];refine xM rM rfl (FK rM ?_);rw[af7];simp only[List.range,List.range.loop];refine qC qP rM vt kC rfl aj (λz _=>a_) ?_;walk_nrm;refine wo rM kC rfl aI func19 aj (c:=yj) aj (vs:=#[vt]) (n:=34) gI aj ?_;unfold ah3 at qJ;exact qJ _ ⟨_,ac9 rfl⟩
theorem alM(rM:uU X D)(hT:TE1 gv n vt T)
  (qJ:∀T',TE2 gv n vb ve T'->rC prog X Y D Stop none [] 11 cs [.code ac_] T' w):
  ∀z,qQ X Y z w->r_ prog D Stop (G ((ah3 T).finish (.tuple #[vb,ve])) cs) z:=by
 rw[show ah3 T=Dn none [] 11 T (.inRegion Tz [1,2,3,4,5,6]::[.code ac_])from rfl];rw[vM kC];show rC _ _ _ _ _ _ _ _ _ _ _ _;obtain⟨g,rfl⟩:=hT;unfold Tdc;walk_nrm;refine qC qP rM (.tuple #[vb,ve]) kC rfl aj (λz _=>a_) ?_;walk_nrm;refine qC qP rM vb kC rfl aj (λz _=>a_) ?_;walk_nrm;refine qC qP rM ve kC rfl aj (λz _=>a_) ?_;walk_nrm;refine qC qP rM vb kC rfl aj (λz _=>a_) ?_;walk_nrm;refine qC qP rM ve kC rfl aj (λz _=>a_) ?_;walk_nrm;exact tY rM (qJ _ ⟨_,ac9 rfl⟩)
theorem aor(rM:uU X D)(hT:TE2 gv n vb ve T)(hE:Dw w){e:Nat}(he:(e=0/\ve=.nilIface)\/∃p,sV w 1 ve e p)
  (qJ:∀w',sH w.heap.size w w'->∀z,qQ X Y z w'->r_ prog D Stop (G (fr.finish (.tuple #[vb,.slice (some ⟨gv,0,none⟩) n n,.int .i64 (e:Int)])) cs) z):
  uA prog X Y D Stop 11 (fr::cs) [.code ac_] ⟨T,[]⟩ w:=by
 refine Lc qP rM aj func11 (R:=λy w'=>y=.tuple #[vb,.slice (some ⟨gv,0,none⟩) n n,.int .i64 (e:Int)]/\sH w.heap.size w w') (λτ d=>?_) (λy v' ⟨h1,h2⟩=>h1▸qJ v' h2);have bl:sH w.heap.size w {w with tape:=τ,drawn:=d}:=(sH.refl _ w).tp τ d;have hE':Dw {w with tape:=τ,drawn:=d}:=hE
 have k1:Calls prog 20 #[ve] {w with tape:=τ,drawn:=d} λr w'=>∃p:Nat,r=.returned (.tuple #[.int .i64 (e:Int),.int .i64 (p:Int)])/\Below ({w with tape:=τ,drawn:=d}:ah).heap.size {w with tape:=τ,drawn:=d} w':=by
  rcases he with⟨rfl,rfl⟩|⟨p,hc⟩
  .refine(Ny _).mono ?_;rintro r w' ⟨rfl,hb⟩;exact⟨0,rfl,hb⟩
  .refine(Ht 1 ag ve e p _ (OA τ d hc) hE').mono ?_;rintro r w' ⟨rfl,hb⟩;exact⟨p,rfl,hb⟩
 generalize({w with tape:=τ,drawn:=d}:ah)=wA at bl k1⊢;obtain⟨f,rfl⟩:=hT;unfold Tdc
 conv in ac_=>simp only[ac_,aaI,yG,qA,Tryz.f11,aQ]
 go_wp2_with(first|(go_at_call 20;(with_reducible refine k1.mono ?_);rintro r w1 ⟨p,rfl,uu⟩))
 go_ret3
 exact⟨_,rfl,rfl,bl.trans (sH.of uu) bl.sN⟩
end
def Zi(M:Nat)(sh:Nat->xG)(vb:ai)(e:Nat)(w:ah):Prop:=
 (e≠0/\vb=.slice none 0 0/\(Gz M sh e\/(e=13/\Gz M sh 0/\¬∃l,MJ M sh l)))\/
 (e=0/\Gz M sh 0/\∃l gb vd,MJ M sh l/\(∀l',MJ M sh l'->l'=l)/\vb=.slice (some ⟨gb,0,none⟩) (sh 0).names.length (sh 0).names.length/\CB (sh 0).names (sh 0).sizes l gb (sh 0).names.length vd w)
theorem CB.sub{ns:List (ak)}{sz:aA}{l:ak}{g i:Nat}{vd:Nat->ai}{w w':ah}(h:CB ns sz l g i vd w)(hs:Sub w w'):CB ns sz l g i vd w':=by refine⟨?_,λj hj=>OB (h.dat j hj) hs⟩;obtain⟨c,h1,h2,h3⟩:=h.row;exact⟨c,hs.2 _ _ _ _ h1,h2,h3⟩
theorem aaK{Fin:Machine->Trace->Prop}(xE:∀m m' ops t,stepT prog m=(.next m',ops)->Fin m' (t++ops)->Fin m t){X:Nat->Prop}{Y:Nat->aV}{e:Nat}{gs:dE}{W v0:ah}{sl:Option (Nat×Nat)}{t:Trace}{qq:Nat->Nat}{fr:aJ}{cs:aP}{n cap:Nat}{bi:aY}{bs:Nat->ak}{vi:Nat->ai}{a:Addr}
  (h0:gs[0]?=some (G ((base 11).at ⟨#[.slice bi n cap]++Array.replicate 55 undef,[]⟩ [.code yG]) (fr::cs))) (hB:Ji prog (uV X) e gs W t qq) (hs:qQ X Y W v0)
  (hS:SlB v0 bi n bs vi) (hn:n<=1048576) (hGl:Gl a v0) (he:e+256<2147483648)
  (qJ:∀(e':Nat)(g:Nat->Nat)(vb:ai)(er gv:Nat)(X':Nat->Prop)(Og:dE)(W':ah)(sl':Option (Nat×Nat))(t':Trace)(q':Nat->Nat)(Y':Nat->aV)(v':ah),e'<=e+256->Prm (Nw bs n).length g->(∀i,i+1<(Nw bs n).length->(AP (Nw bs n) (g i)).i<=(AP (Nw bs n) (g (i+1))).i)->Og[0]?=some (G (fr.finish (.tuple #[vb,.slice (some ⟨gv,0,none⟩) n n,.int .i64 (er:Int)])) cs)->
   Ji prog (uV X') e' Og W' t' q'->qQ X' Y' W' v'->(∀b,X b->X' b)->(∀b,X' b->X b\/W.heap.size<=b)->Sub v0 v'->KpX X W W'->(∀i,i<n->v'.cell? ⟨gv,i,none⟩=some (.int .i64 ((erS (bs i):Nat):Int)))->Zi (Nw bs n).length (λi=>AP (Nw bs n) (g i)) vb er v'->Fin (crowd Og W' sl') t'):
  Fin (crowd gs W sl) t:=by
 let St:aG->ah->Prop:=λgr W=>∃(T:aB)(gv:Nat)(vN vS vC:Nat->ai)(vt:ai)(v1:ah),TE1 gv n vt T/\DI v0 gv bs n n vN vS vC vt v1/\gr=G ((base 19).at ⟨#[vt]++Array.replicate 34 undef,[]⟩ [.code yj]) (ah3 T::fr::cs)/\qQ X Y W v1
 have key:=aop (Stop:=St) (Y:=Y) (cs:=fr::cs) (cap:=cap) (xX X) hS hn hGl (λT gv vN vS vC vt v1 a1 a2=>aqJ (xX X) a1 λT' a1' y hy=>.stop λd=>⟨T',gv,vN,vS,vC,vt,v1,a1',a2,rfl,hy.at d⟩);refine late (Fin:=Fin) (Shun:=uV X) (e:=e) xE (λ_ _ _ h=>h) (λgs1 a1 W1 sl1 t1 q1 h01 uw I8=>?_) (key W hs) W.drawn gs sl t qq h0 hB;obtain⟨T,gv,vN,vS,vC,vt,v1,hT,hI,rfl,yE⟩:=uw W1.drawn;replace yE:qQ X Y W1 v1:=yE;clear key uw;have KP:=DZ hs yE hI.AO;have UA:=tq hI.AO;have xA:=KP.size;obtain⟨bo,cp,rfl,hSd⟩:=hI.tk.sds (aaL bs n);have Y9:=ae0 bs n;refine af8 xE h01 I8 yE hSd ag (λi hi=>aaL bs n _ (by simp[AP,cO hi])) he ?_;intro e2 g y X2 gs2 W2 sl2 t2 q2 Y2 v2 he2 hP Zj h02 Ap zU hXa hXb P6 P7 hA;have ah4:=UA.trans P6;have hE2:Dw v2:=(hGl.sub ah4).aoq;have Np:∀b,X2 b->X b\/W.heap.size<=b:=λb hb=>(hXb b hb).imp id λh=>ag
 have aos:∀v3,Sub v2 v3->∀i,i<n->v3.cell? ⟨gv,i,none⟩=some (.int .i64 ((erS (bs i):Nat):Int)):=λv3 h3 i hi=>by have:=hI.row.cell (i:=i) hi;rw[ay hi]at this;exact(P6.trans h3).cell this
 have fin:∀(vb ve:ai)(er:Nat),y=.tuple #[vb,ve]->((er=0/\ve=.nilIface)\/∃p,sV v2 1 ve er p)->Zi (Nw bs n).length (λi=>AP (Nw bs n) (g i)) vb er v2->(∀v3,Sub v2 v3->Zi (Nw bs n).length (λi=>AP (Nw bs n) (g i)) vb er v3)->Fin (crowd gs2 W2 sl2) t2:=λvb ve er hy hv _ hR=>by
  subst hy
  let St4:aG->ah->Prop:=λgr W=>∃v3,sH v2.heap.size v2 v3/\gr=G (fr.finish (.tuple #[vb,.slice (some ⟨gv,0,none⟩) n n,.int .i64 (er:Int)])) cs/\qQ X2 Y2 W v3
  have Zk:=alM (Stop:=St4) (Y:=Y2) (cs:=fr::cs) (w:=v2) (vb:=vb) (ve:=ve) (xX X2) hT (λT4 hT4=>Jl.2 (aor (Stop:=St4) (xX X2) hT4 hE2 hv (λw' b1 z hz=>.stop λd=>⟨w',b1,rfl,hz.at d⟩)));refine late (Fin:=Fin) (Shun:=uV X2) (e:=e2) xE (λ_ _ _ h=>h) (λWp a4 W4 XQ t4 q4 h04 uw IM=>?_) (Zk W2 zU) W2.drawn gs2 sl2 t2 q2 h02 Ap;obtain⟨v3,b1,rfl,b3⟩:=uw W4.drawn;replace b3:qQ X2 Y2 W4 v3:=b3;have xI:=tq b1;exact qJ e2 g vb er gv X2 Wp W4 XQ t4 q4 Y2 v3 he2 hP Zj h04 IM b3 hXa Np (ah4.trans xI) ((KP.trans P7 λx hx=>.inl hx).trans (DZ zU b3 b1) Np) (aos v3 xI) (hR v3 xI)
 rcases hA with⟨er,ev,p,hE,hne,hy,hc⟩|⟨hE,Rt,ev,p,hy,hc⟩|⟨hE,l,gb,vd,hF,hU,hy,hC⟩
 .exact fin _ _ er hy (.inr ⟨p,hc⟩) (.inl ⟨hne,rfl,.inl hE⟩) λv3 _=>.inl ⟨hne,rfl,.inl hE⟩
 .exact fin _ _ 13 hy (.inr ⟨p,hc⟩) (.inl ⟨aC,rfl,.inr ⟨rfl,hE,Rt⟩⟩) λv3 _=>.inl ⟨aC,rfl,.inr ⟨rfl,hE,Rt⟩⟩
 .exact fin _ _ 0 hy (.inl ⟨rfl,rfl⟩) (.inr ⟨rfl,hE,l,gb,vd,hF,hU,rfl,hC⟩) λv3 h3=>.inr ⟨rfl,hE,l,gb,vd,hF,hU,rfl,hC.sub h3⟩
end Go.Proofs.Y
namespace Go.Proofs.Y
open Go.Proofs.Tryz
open Go.RowKit Go.Deep
structure BlS(w:ah)(bo:aY)(m:Nat)(ns D:Nat->ak)(vd:Nat->ai):Prop where
 cells:0<m->∃b o,bo=some ⟨b,o,none⟩/\∀i,i<m->w.cell? ⟨b,o+i*2,none⟩=some (.string ⟨(ns i).toArray⟩)/\w.cell? ⟨b,o+i*2+1,none⟩=some (vd i)
 dat:∀i,i<m->qU w (vd i) (sJ (D i))
theorem WW(m ca cb:Nat)(ba bb:aY)(ns D:Nat->ak)(va vb:Nat->ai)(w:ah)(hm:m<=1048576)(ha:BlS w ba m ns D va)(hb:BlS w bb m ns D vb):
  Calls prog 12 #[.slice ba m ca,.slice bb m cb] w λr w'=>r=.returned (.bool true)/\∃q,w'=w.drewN q:=by
 go_enter func12,ntmps12;go_wp2
 go_loopw [5] (λvi wr=>∃j q:Nat,j<=m/\vi=.int .i64 (j:Int)/\wr=w.drewN q) (λvi _=>m-(intOf vi).toNat)
 case atStart=>exact⟨0,0,ag,rfl,rfl⟩
 case round=>
  obtain⟨j,q,hj,rfl,rfl⟩:=hrel;by_cases qK:j<m
  .have Am:(j:Int)<(m:Int):=ag;obtain⟨b,o,rfl,hc⟩:=ha.cells ag;obtain⟨b',o',rfl,hc'⟩:=hb.cells ag;obtain⟨c0,c1⟩:=hc j qK;obtain⟨d0,d1⟩:=hc' j qK;replace c0:(w.drewN q).cell? _=_:=c0;replace c1:(w.drewN q).cell? _=_:=c1;replace d0:(w.drewN q).cell? _=_:=d0;replace d1:(w.drewN q).cell? _=_:=d1;have sa:=((ha.dat j qK).drewN (q+1)).str;have sb:=((hb.dat j qK).drewN (q+1)).str;obtain⟨pa,xa,ea⟩:=(ha.dat j qK).len;obtain⟨pb,xb,eb⟩:=(hb.dat j qK).len;rw[ea]at c1 sa;rw[eb]at d1 sb;clear ha hb hc hc' ea eb;generalize(sJ (D j)).length=ld at*;have hS:(w.drewN (q+1)).cell? ⟨b,o+j*2,none⟩=some (.string ⟨(ns j).toArray⟩)/\(w.drewN (q+1)).cell? ⟨b,o+j*2+1,none⟩=some (.slice pa ld xa)/\(w.drewN (q+1)).cell? ⟨b',o'+j*2,none⟩=some (.string ⟨(ns j).toArray⟩)/\(w.drewN (q+1)).cell? ⟨b',o'+j*2+1,none⟩=some (.slice pb ld xb)/\(convert 34 9 (.slice pa ld xa)).run prog (w.drewN (q+1))=.ok (.string ⟨(D j).toArray⟩) (w.drewN (q+1))/\(convert 34 9 (.slice pb ld xb)).run prog (w.drewN (q+1))=.ok (.string ⟨(D j).toArray⟩) (w.drewN (q+1))/\w.drewN (q+1)=w.drewN (q+1):=⟨c0,c1,d0,d1,sa,sb,rfl⟩;go_wp2
   go_region_held3 (λw'=>w'.cell? ⟨b,o+j*2,none⟩=some (.string ⟨(ns j).toArray⟩)/\w'.cell? ⟨b,o+j*2+1,none⟩=some (.slice pa ld xa)/\w'.cell? ⟨b',o'+j*2,none⟩=some (.string ⟨(ns j).toArray⟩)/\w'.cell? ⟨b',o'+j*2+1,none⟩=some (.slice pb ld xb)/\(convert 34 9 (.slice pa ld xa)).run prog w'=.ok (.string ⟨(D j).toArray⟩) w'/\(convert 34 9 (.slice pb ld xb)).run prog w'=.ok (.string ⟨(D j).toArray⟩) w'/\w'=w.drewN (q+1)) (first|exact hS|(refine⟨?_,?_,?_,?_,?_,?_,?_⟩<;>assumption)|go_keep) (fail)
   go_wp2;exact⟨⟨j+1,q+1,ag,ax,rfl⟩,gG⟩
  .obtain rfl:j=m:=ag;have Hg:¬((j:Int)<(j:Int)):=ag;go_wp2;go_ret;exact⟨rfl,q,rfl⟩
end Go.Proofs.Y
namespace Go.Proofs.Y
open Go.Proofs.Tryz
open Go.RowKit Go.Deep Go.Lf Go.Conc Go.ConcN Go.Gh Go.Hp
open Go.ConcR (Payload WgAt wgBlock)
theorem UB(c:Nat)(qH:ak):∀j,(su c qH j).length<=j*(c+8)
 |0=>by simp[su]
 |j+1=>by
  rw[yg,bK,lQ];have h1:=UB c qH j
  have h2:(yt c qH j).length<=c+8:=by unfold yt;rw[tu];unfold part;rw[gZ];omega
  omega
theorem aot{s:Sh}(h1:s.L8)(h3:s.Few)(h4:s.OC):0<(Jm s).length/\(Jm s).length<=10000000000:=by
 have f:=UB s.C.toNat s.qH (Hu s.C.toNat s.qH.length);have hk:1<=s.K.toNat:=by have:=h1.k1;omega
 have hl:s.qH.length<=65536:=by have a1:=D5 hk (Fv s.zs);have a2:=h3.bytes;have a3:s.qH.length=_:=h4;omega
 have hc1:1<=s.C.toNat:=by have:=h1.c1;omega
 have Wq:s.C.toNat<=65536:=by have:=h1.c2;omega
 have hn:Hu s.C.toNat s.qH.length<=65536:=by have:=D5 hc1 s.qH.length;unfold ug at this;unfold Hu;omega
 have hm:=CX s;have hm2:=h3.OD;have hp:=kR hn (show s.C.toNat+8<=65544 by omega);unfold Jm;simp only[bK,tu,GG,hm,dJ,dY];omega
end Go.Proofs.Y
namespace Go.Proofs.Y
open Go.Proofs.Tryz
open Go.RowKit Go.Deep Go.Hp
section
variable {K N C m:Nat}{f:Nat->qX}{d:qX->ak}
def FB(K N C m:Nat)(f:Nat->qX)(d:qX->ak)(i:Nat):xG:=Ry (uy K N C m f d i)
theorem af9(hd:∀j,j<m->(d (f j)).length=(f j).l):((qx m f).map Int.toNat).sum=(rE (λj=>d (f j)) m).length:=GH d f m hd
theorem ada(i:Nat):(FB K N C m f d i).i=i:=by simp[FB,Ry,uy]
theorem ah5(i j:Nat):OE (FB K N C m f d i) (FB K N C m f d j)=true:=by simp[OE,FB,Ry,uy]
theorem aaM{M:Nat}{x:Nat->Nat}(hd:∀j,j<m->(d (f j)).length=(f j).l):MJ M (λi=>FB K N C m f d (x i)) (rE (λj=>d (f j)) m):=by have hs:=af9 (f:=f) hd;refine⟨hs.symm,λt ht=>?_⟩;show zW _ _ _ _=zW K (ug K ((qx m f).map Int.toNat).sum) _ (FB K N C m f d (x t)).i;rw[hs,ada]
theorem ae1{M:Nat}{x:Nat->Nat}(hx:∀i j,i<M->j<M->i≠j->x i≠x j){e:Nat}(hE:Gz M (λi=>FB K N C m f d (x i)) e)(hK:1<=K):(e=0/\K<=M)\/(e=12/\M<K):=by
 have hA:BH M λi=>FB K N C m f d (x i):=λi hi=>ah5 _ _
 have hD:¬Dup M λi=>FB K N C m f d (x i):=λ⟨t,h1,h2⟩=>hx (t+1) t h1 ag ag (by simpa only[ada]using h2);rcases hE with⟨rfl,h⟩|⟨rfl,_,h⟩|⟨rfl,_,_,h⟩|⟨rfl,_,_,_,h⟩
 .exact absurd hA h
 .exact absurd h hD
 .refine .inr ⟨rfl,?_⟩;rcases h with h|h
  .omega
  .exact h
 .exact .inl ⟨rfl,h⟩
theorem alN{M:Nat}{x:Nat->Nat}{vb:ai}{er:Nat}{w:ah}(hd:∀j,j<m->(d (f j)).length=(f j).l)(hx:∀i j,i<M->j<M->i≠j->x i≠x j)(hK:1<=K)(hR:Zi M (λi=>FB K N C m f d (x i)) vb er w):
  (K<=M->er=0/\∃gb vd,vb=.slice (some ⟨gb,0,none⟩) m m/\CB (qE m f) ((qx m f).map Int.toNat) (rE (λj=>d (f j)) m) gb m vd w)/\(M<K->er=12/\vb=.slice none 0 0):=by
 rcases hR with⟨hne,hv,hE|⟨_,hE,Rt⟩⟩|⟨rfl,hE,l,gb,vd,hF,hU,hv,hC⟩
 .rcases ae1 hx hE hK with⟨h,_⟩|⟨h,h2⟩
  .exact absurd h hne
  .exact⟨λh3=>ag,λ_=>⟨h,hv⟩⟩
 .exact absurd ⟨_,aaM hd⟩ Rt
 .rcases ae1 hx hE hK with⟨_,h2⟩|⟨h,_⟩
  .refine⟨λ_=>⟨rfl,gb,vd,?_,?_⟩,λh3=>ag⟩
   .rw[hv];show Value.slice _ (qE m f).length (qE m f).length=_;rw[uC]
   .have e:=hU _ (aaM hd);rw[e];have hn:(FB K N C m f d (x 0)).names=qE m f:=rfl;have hz:(FB K N C m f d (x 0)).sizes=(qx m f).map Int.toNat:=rfl;have hl:=uC m f;rw[hn,hz,hl]at hC;exact hC
  .cases h
theorem join_mono(D:Nat->ak):∀{m j:Nat},j<m->(rE D j).length+(D j).length<=(rE D m).length
 |0,_,h=>by omega
 |m+1,j,h=>by
  show _<=(rE D m++D m).length;rw[bK];rcases bJ j m with h1|h1
  .have:=join_mono D h1;omega
  .obtain rfl:j=m:=ag;omega
theorem XZ(D:Nat->ak):∀{m j:Nat},j<m->((rE D m).drop (rE D j).length).take (D j).length=D j
 |0,_,h=>by omega
 |m+1,j,h=>by
  show((rE D m++D m).drop _).take _=_;rcases bJ j m with h1|h1
  .have h2:=join_mono D h1;rw[List.drop_append_of_le_length ag,avT awO];exact XZ D h1
  .obtain rfl:j=m:=ag;rw[List.drop_left,List.take_length]
theorem aaN(hd:∀j,j<m->(d (f j)).length=(f j).l):∀j,j<=m->pre ((qx m f).map Int.toNat) j=(rE (λj=>d (f j)) j).length
 |0,_=>by simp[pre,rE]
 |j+1,h=>by rw[EF (by rw[ji,xm];omega),aaN hd j ag];show _=(rE (λj=>d (f j)) j++d (f j)).length;rw[bK,hd j ag];simp[qx,show j<m by omega]
theorem alO(hd:∀j,j<m->(d (f j)).length=(f j).l){j:Nat}(hj:j<m):Nz ((qx m f).map Int.toNat) (rE (λj=>d (f j)) m) j=d (f j):=by unfold Nz;rw[aaN hd j ag,show((qx m f).map Int.toNat).getD j 0=(d (f j)).length by rw[hd j hj];simp[qx,hj]];exact XZ (λj=>d (f j)) hj
theorem alP{w:ah}{gb:Nat}{vd:Nat->ai}(hd:∀j,j<m->(d (f j)).length=(f j).l)(h:CB (qE m f) ((qx m f).map Int.toNat) (rE (λj=>d (f j)) m) gb m vd w):BlS w (some ⟨gb,0,none⟩) m (λi=>(f i).k) (λi=>d (f i)) vd:=by
 have r:=h.row;rw[uC]at r;refine⟨λ_=>⟨gb,0,rfl,λi hi=>?_⟩,λi hi=>?_⟩
 .have c0:=r.cell (i:=i*2) ag;have c1:=r.cell (i:=i*2+1) ag;simp only[show i*2/2=i by omega,show(i*2+1)/2=i by omega,hi,aX,show i*2%2=0 by omega,show¬(i*2+1)%2=0 by omega,bQ]at c0 c1;rw[bM];refine⟨c0.trans ?_,c1⟩;simp[rH,qE,hi]
 .have:=qU.owned (h.dat i hi);rw[alO hd hi]at this;exact this
