import Derived.Test.YtlghjjennhpjeaaGreatDoorCnI
import Derived.Test.YtlghjjennhpjeaaGreatDoorRows
import Derived.LaidMore
import Derived.LaidSub
import Derived.Stop.LaidErr
set_option maxHeartbeats 8000000
set_option maxRecDepth 100000
namespace Go.Proofs.Y
open YtlghjjennhpjeaaGreatDoor
open Go.Proofs.Tryz
open Go.RowKit Go.Deep Go.Lf Go.Conc Go.Hp
theorem Xw(l:aj)(en:Nat):∀(c a:Nat)(ns:List (aj))(zs:aC)(e:Nat×Nat),yC l en c a ns zs=.error e->e.1≠0
 |0,a,ns,zs,e,h=>by unfold yC at h;cases h
 |c+1,a,ns,zs,e,h=>by
  unfold yC at h;split at h
  .cases h;simp
  .split at h
   .cases h;simp
   .split at h
    .cases h;simp
    .split at h
     .cases h;simp
     .exact Xw l en c _ _ _ e h
theorem Xx(l:aj)(low:Bool)(ch ln:Nat)(en:Int):∀(f a:Nat)(qC:aj)(e:Nat×Nat),tu l low ch ln en f a qC=.error e->e.1≠0
 |0,a,qC,e,h=>by unfold tu at h;cases h
 |f+1,a,qC,e,h=>by
  unfold tu at h;split at h
  .cases h
  .split at h
   .rename_i x hx;cases h;exact Ht l _ _ _ hx
   .split at h
    .rename_i x hx;cases h;split at hx
     .exact Xy _ _ _ _ _ hx
     .cases hx
    .exact Xx l low ch ln en f _ _ e h
theorem aaT{z:aj}{e:Nat×Nat}(h:qN z=.error e):e.1≠0:=by
 unfold qN at h;split at h
 .rename_i x hx;cases h;unfold Bc at hx;split at hx
  .rename_i y hy;cases hx;exact((La z _ _).or (Ht z _ _)) _ hy
  .refine(?_:PL _) _ hx;unfold Md;exact(((((((DW.or (wP aB)).or (wP aB)).or (wP aB)).or (wP aB)).or (wP aB)).or (wP aB)).or (wP aB)).or (wP aB)
 .split at h
  .rename_i x hx;cases h;unfold vX at hx;split at hx
   .rename_i y hy;cases hx;exact Ht z _ _ _ hy
   .split at hx
    .cases hx;simp
    .unfold Wl at hx;split at hx
     .rename_i y hy;cases hx;exact Xw z _ _ _ _ _ _ hy
     .split at hx
      .cases hx
      .cases hx;simp
  .split at h
   .split at h
    .rename_i x hx;cases h;exact Xx z _ _ _ _ _ _ _ _ hx
    .split at h
     .rename_i x hx;cases h;exact((La z _ _).or (wP aB)) _ hx
     .cases h
   .cases h;simp
theorem Tryz.af9:(prog.info? 31).map (λi=>(i.zero,i.size,i.bytes))=some (some (.int .i64 0),1,8):=ak
theorem af_(n:Nat)(hn:n<=1048576)(w:ah):(Instr.makeSlice 30 (.int .i64 (n:Int)) (.int .i64 (n:Int))).run prog w=.ok (.slice (some ⟨w.heap.size,0,none⟩) n n) (w.alloc (.cells (madeCells #[.int .i64 0] n) 31)):=by obtain⟨i0,zo,xY,wW,vV⟩:=cO Tryz.af9;have:=kC (P:=prog) w 30 31 i0 _ underlying30 zo xY .i64 .i64 n n ag ag jv ag;rw[wW]at this;simp only[jR,ja]at this;exact this
structure SlB(w:ah)(bi:aW)(n:Nat)(bs:Nat->aj)(vi:Nat->ai):Prop where
 cells:0<n->∃b o,bi=some ⟨b,o,none⟩/\∀i,i<n->w.cell? ⟨b,o+i,none⟩=some (vi i)
 LV:∀i,i<n->qP w (vi i) (rP (bs i))/\Qe (vi i) (bs i).length/\(bs i).length<=4611686018427387904
theorem SlB.sub{w w':ah}{bi:aW}{n:Nat}{bs:Nat->aj}{vi:Nat->ai}(h:SlB w bi n bs vi)(hs:Sub w w'):SlB w' bi n bs vi:=
 ⟨λhn=>by obtain⟨b,o,e,hc⟩:=h.cells hn;exact⟨b,o,e,λi hi=>hs.cell (hc i hi)⟩,λi hi=>⟨hs.lies (h.LV i hi).1,(h.LV i hi).2⟩⟩
theorem aqk{w:ah}{v:ai}{l:aj}(h:qP w v (rP l))(hV:Qe v l.length):Pt w (λ_=>False) v l:=by
 rcases hV with⟨rfl,h0⟩|⟨b,off,cap,rfl,hc⟩
 .exact .inl ⟨rfl,jQ h0⟩
 .refine .inr ⟨⟨b,off,none⟩,cap,rfl,hc,λ_=>id,λj hj=>?_⟩;obtain⟨ba,anc,e,_,hh⟩:=h;obtain⟨b',akN,e',h2⟩:=hh j _ (wF hj);obtain⟨e1,_,_⟩:=auE e;rw[<-e1]at e';cases e';rw[Addr.add_mid];exact h2
structure DI(w:ah)(gv:Nat)(bs:Nat->aj)(n j:Nat)(vN vS vC:Nat->ai)(vt:ai)(wr:ah):Prop where
 xG:tX w.heap.size w wr
 row:wr.rowIs gv 31 n (λi=>if i<j then .int .i64 ((Ua (bs i):Nat):Int)else .int .i64 0)
 lo:w.heap.size<=gv
 tk:Tk (gv+1) (CS bs j) vN vS vC vt wr
theorem DI.set{w:ah}{gv:Nat}{bs:Nat->aj}{n j:Nat}{vN vS vC:Nat->ai}{vt:ai}{wr w3:ah}(h:DI w gv bs n j vN vS vC vt wr)(hb:Below wr.heap.size wr w3):
  tX w.heap.size w (w3.setCell ⟨gv,j,none⟩ (.int .i64 ((Ua (bs j):Nat):Int)))/\(w3.setCell ⟨gv,j,none⟩ (.int .i64 ((Ua (bs j):Nat):Int))).rowIs gv 31 n (λi=>if i<j+1 then .int .i64 ((Ua (bs i):Nat):Int)else .int .i64 0)/\Tk (gv+1) (CS bs j) vN vS vC vt (w3.setCell ⟨gv,j,none⟩ (.int .i64 ((Ua (bs j):Nat):Int))):=by
 have r:=h.row.of_block (hb.block gv h.row.lt);have r1:=r.set j (.int .i64 ((Ua (bs j):Nat):Int));refine⟨Below.setCell (h.xG.trans (tX.of hb) h.xG.uo) (p:=⟨gv,j,none⟩) h.lo _,r1.congr λi hi=>?_,h.tk.Ag λb tV rq=>?_⟩
 .by_cases e:i=j
  .subst e;rw[ax rfl,ax ag]
  .rw[au e];by_cases e2:i<j
   .rw[ax e2,ax ag]
   .rw[au e2,au ag]
 .rw[blk_setCell_other _ _ _ _ (show b≠(⟨gv,j,none⟩:Addr).block from λe=>by simp at e;omega)];exact hb.block b rq
section
variable {X:Nat->Prop}{Y:Nat->aZ}{D:Nat->ah->aN->Prop}{Stop:aI->ah->Prop}{w:ah}{cs:aT}{n cap:Nat}{bi:aW}{bs:Nat->aj}{vi:Nat->ai}{a:Addr}
theorem aow(uk:zN X D)(hS:SlB w bi n bs vi)(hn:n<=1048576)(hG:Gl a w)
  (qZ:∀(T:aH)(gv:Nat)(vN vS vC:Nat->ai)(vt:ai)(w':ah),TE1 gv n vt T->DI w gv bs n n vN vS vC vt w'->
   uN prog X Y D Stop 5 cs [.code aag] ⟨T,[]⟩ w'):
  uN prog X Y D Stop 5 cs [.code yj] ⟨#[.slice bi n cap]++Array.replicate 55 undef,[]⟩ w:=by
 rw[afG];simp only[eU,eQ,eH,eP,dw,df];refine rV rC uk ak rfl ald λR hR τ d'=>?_
 have bl:tX w.heap.size w {w with tape:=τ,drawn:=d'}:=(tX.refl _ w).tp τ d';generalize({w with tape:=τ,drawn:=d'}:ah)=wA at bl⊢;simp only[sZ,yj,Tryz.f5,bf];go_wp2;refine rV rC uk ak rfl ald λR hR τ d'=>?_
 replace bl:=bl.tp τ d';generalize({wA with tape:=τ,drawn:=d'}:ah)=wB at bl⊢;simp only[sZ,rX,yj,Tryz.f5,bf];have mk:=af_ n hn wB;have r0:=World.rowIs_made wB (.int .i64 0) n 31;have b0:tX w.heap.size w (wB.alloc (.cells (madeCells #[.int .i64 0] n) 31)):=bl.trans (tX.of ((aO _ _).alloc (ay _) _)) bl.uo;have hlo:=bl.uo;go_wp2;clear mk;generalize wB.alloc (.cells (madeCells #[.int .i64 0] n) 31)=wC at r0 b0⊢;generalize wB.heap.size=gv at*;refine rV rC uk ak rfl ald λR hR τ d'=>?_
 replace b0:=b0.tp τ d';replace r0:World.rowIs ({wC with tape:=τ,drawn:=d'}:ah) _ _ _ _:=r0;generalize({wC with tape:=τ,drawn:=d'}:ah)=wD at b0 r0⊢;simp only[sZ,rX,yj,Tryz.f5,bf];go_wp2;refine rV rC uk ak rfl ald λR hR τ d'=>?_
 replace b0:=b0.tp τ d';replace r0:World.rowIs ({wD with tape:=τ,drawn:=d'}:ah) _ _ _ _:=r0;generalize({wD with tape:=τ,drawn:=d'}:ah)=wE at b0 r0⊢;simp only[sZ,rX,yj,Tryz.f5,bf];have D0:DI w gv bs n 0 (λ_=>undef) (λ_=>undef) (λ_=>undef) (.slice none 0 0) wE:=⟨b0,r0.congr λi hi=>iT,hlo,bY _ _ _ _,λi hi=>absurd hi lG,λi hi=>absurd hi lG,λi hi=>absurd hi lG⟩;go_wp2
 go_loopw [6,7,8,9,10,11,21] (λv6 _ _ _ _ _ vj wr=>∃(j:Nat)(vN vS vC:Nat->ai),j<=n/\vj=.int .i64 (j:Int)/\DI w gv bs n j vN vS vC v6 wr) (λ_ _ _ _ _ _ vj _=>n-(intOf vj).toNat)
 case atStart=>exact⟨0,_,_,_,ag,rfl,D0⟩
 case round=>
  clear D0 r0 b0;obtain⟨j,vN,vS,vC,hj,rfl,hI⟩:=hrel;by_cases qB:j<n
  .have xZ:(j:Int)<(n:Int):=ag;have hs:=xn hI.xG;obtain⟨b,o,rfl,hcell⟩:=hS.cells ag;have c1:=hs.cell (hcell j qB);have hGr:=hG.sub hs;have hP:=aqk (hs.lies (hS.LV j qB).1) (hS.LV j qB).2.1;have kP:=ac5 (bs j) (vi j) wr hP (hS.LV j qB).2.2 hGr.tab hGr.pow hGr.big a hGr.early hGr.aoo;unfold xO at kP;have zZ:=λw3 hb=>hI.set (w3:=w3) hb
   have hrc:=λ(w3:ah)(hb:Below wr.heap.size wr w3)=>(hI.row.of_block (hb.block gv hI.row.lt)).cell (i:=j) qB;have hrf:=λ(w3:ah)(hb:Below wr.heap.size wr w3)=>(hI.row.of_block (hb.block gv hI.row.lt)).frozen j;cases Bh:qN (bs j)with
   |error e=>
    rw[Bh]at kP;simp only at kP;have hes:Ua (bs j)=e.1:=qf;have hne:=aaT Bh;have asU:¬((e.1:Int)=0):=ag;have TP:=ahL Bh;rw[hes]at zZ;clear hcell hGr hP hs Bh hes;unfold Bq sG at kP;generalize e.1=e1 at*;generalize e.2=e2 at*
    go_upto_region 7 with(first|(go_at_call 9;(with_reducible refine kP.mono ?_);rintro q w2 ⟨rq,rfl⟩))
    have uQ:Below wr.heap.size wr (w2.alloc (.cells #[.int .i64 0,.int .i64 0,.int .i64 0,.int .i64 0,.slice none 0 0,.slice none 0 0,.slice none 0 0] 41)):=rq.alloc rq.size _;have z1:=zZ _ uQ;have z2:=hrc _ uQ;have z3:=hrf _ uQ;generalize w2.alloc (.cells #[.int .i64 0,.int .i64 0,.int .i64 0,.int .i64 0,.slice none 0 0,.slice none 0 0,.slice none 0 0] 41)=w3 at z1 z2 z3⊢;clear zZ hrc hrf uQ rq c1 kP;generalize w2.heap.size=p9;rw[au ag]at z2;go_wp2;obtain⟨z4,z5,z6⟩:=z1;exact⟨⟨j+1,vN,vS,vC,ag,aA,⟨z4,z5,hI.lo,by rw[TP];exact z6⟩⟩,jV⟩
   |ok s=>
    rw[Bh]at kP;simp only at kP;have hes:Ua (bs j)=0:=qf;have TP:=ahK Bh;have TQ:=Tt bs j;rw[hes]at zZ;clear hcell hGr hP hs Bh hes;unfold sG at kP
    go_upto_region 7 with(first|(go_at_call 9;(with_reducible refine kP.mono ?_);rintro q w2 ⟨rq,xN,xS,xC,rfl,oN,oS,oC⟩;obtain⟨bN,cN,rfl⟩:=(qP.owned oN).len;obtain⟨bS,cS,rfl⟩:=(qP.owned oS).len;obtain⟨bC,cC,rfl⟩:=(qP.owned oC).len))
    generalize(zC s.names).length=lN at*;generalize(uH s.sizes).length=lS at*;generalize(rP s.qC).length=lC at*;have uQ:Below wr.heap.size wr (w2.alloc (.cells #[.int .i64 (s.k:Int),.int .i64 (s.n:Int),.int .i64 (s.i:Int),.int .i64 (s.c:Int),.slice bN lN cN,.slice bS lS cS,.slice bC lC cC] 41)):=rq.alloc rq.size _;have hR:=ql.made w2 [.int .i64 (s.k:Int),.int .i64 (s.n:Int),.int .i64 (s.i:Int),.int .i64 (s.c:Int),.slice bN lN cN,.slice bS lS cS,.slice bC lC cC] 41;have z1:=zZ _ uQ;have z2:=hrc _ uQ;have z3:=hrf _ uQ;have oN3:=oN.alloc (.cells #[.int .i64 (s.k:Int),.int .i64 (s.n:Int),.int .i64 (s.i:Int),.int .i64 (s.c:Int),.slice bN lN cN,.slice bS lS cS,.slice bC lC cC] 41);have oS3:=oS.alloc (.cells #[.int .i64 (s.k:Int),.int .i64 (s.n:Int),.int .i64 (s.i:Int),.int .i64 (s.c:Int),.slice bN lN cN,.slice bS lS cS,.slice bC lC cC] 41);have oC3:=oC.alloc (.cells #[.int .i64 (s.k:Int),.int .i64 (s.n:Int),.int .i64 (s.i:Int),.int .i64 (s.c:Int),.slice bN lN cN,.slice bS lS cS,.slice bC lC cC] 41);have hgv:=hI.row.lt;have hp9:w2.heap.size≠gv:=by have:=rq.size;omega
    replace hR:ql (w2.alloc (.cells #[.int .i64 (s.k:Int),.int .i64 (s.n:Int),.int .i64 (s.i:Int),.int .i64 (s.c:Int),.slice bN lN cN,.slice bS lS cS,.slice bC lC cC] 41)) w2.heap.size [.int .i64 (s.k:Int),.int .i64 (s.n:Int),.int .i64 (s.i:Int),.int .i64 (s.c:Int),.slice bN lN cN,.slice bS lS cS,.slice bC lC cC] 41:=hR;generalize w2.alloc (.cells #[.int .i64 (s.k:Int),.int .i64 (s.n:Int),.int .i64 (s.i:Int),.int .i64 (s.c:Int),.slice bN lN cN,.slice bS lS cS,.slice bC lC cC] 41)=w3 at z1 z2 z3 hR oN3 oS3 oC3⊢;clear zZ hrc hrf uQ rq c1 kP oN oS oC;generalize w2.heap.size=p9 at*;rw[au ag]at z2;replace hR:ql (w3.setCell ⟨gv,j,none⟩ (.int .i64 ((0:Nat):Int))) p9 [.int .i64 (s.k:Int),.int .i64 (s.n:Int),.int .i64 (s.i:Int),.int .i64 (s.c:Int),.slice bN lN cN,.slice bS lS cS,.slice bC lC cC] 41:=(blk_setCell_other _ _ _ _ hp9).trans hR;replace oN3:=(dR oN3 (a:=⟨gv,j,none⟩) hgv (.int .i64 ((0:Nat):Int))).mono (show gv+1<=wr.heap.size from hgv);replace oS3:=(dR oS3 (a:=⟨gv,j,none⟩) hgv (.int .i64 ((0:Nat):Int))).mono (show gv+1<=wr.heap.size from hgv);replace oC3:=(dR oC3 (a:=⟨gv,j,none⟩) hgv (.int .i64 ((0:Nat):Int))).mono (show gv+1<=wr.heap.size from hgv)
    go_upto_region 9 with(fail)
    replace hR:ql (w3.setCell ⟨gv,j,none⟩ (.int .i64 0)) p9 [.int .i64 (s.k:Int),.int .i64 (s.n:Int),.int .i64 (s.i:Int),.int .i64 (s.c:Int),.slice bN lN cN,.slice bS lS cS,.slice bC lC cC] 41:=hR;rw[show((0:Nat):Int)=0 from rfl]at z1 oN3 oS3 oC3;generalize w3.setCell ⟨gv,j,none⟩ (.int .i64 0)=w4 at*;obtain⟨z4,z5,z6⟩:=z1;have c0:=hR.cell (i:=0) rfl;have c1:=hR.cell (i:=1) rfl;have c2:=hR.cell (i:=2) rfl;have c3:=hR.cell (i:=3) rfl;have c4:=hR.cell (i:=4) rfl;have c5:=hR.cell (i:=5) rfl;have c6:=hR.cell (i:=6) rfl;have hg4:=z5.lt;obtain⟨i0,zo,xY,wW,vV⟩:=cO Tryz.Lc
    obtain⟨bt,ct,rfl⟩:∃bt ct,u6=.slice bt (CS bs j).length ct:=by
     rcases z6.own.2 with⟨h1,h2⟩|⟨g,cap,_,h1,_⟩
     .exact⟨none,0,by rw[h1,h2]⟩
     .exact⟨_,_,h1⟩
    have sy:∀u∈([.int .i64 (s.k:Int),.int .i64 (s.n:Int),.int .i64 (s.i:Int),.int .i64 (s.c:Int),.slice bN lN cN,.slice bS lS cS,.slice bC lC cC]:aK),u.oneCell'=true:=by exact ayD
    clear hR z2 z3 hI
    go_wp2_with(at_builtin;refine di _ rfl _ _ 39 rfl (gv+1) 41 i0 (.agg #[.int .i64 0,.int .i64 0,.int .i64 0,.int .i64 0,.slice none 0 0,.slice none 0 0,.slice none 0 0]) 7 104 underlying39 zo xY wW vV rfl aB _ _ _ rfl (z6.own.alloc _) ⟨w4.heap.size,0,none⟩ 1 1 [.int .i64 (s.k:Int),.int .i64 (s.n:Int),.int .i64 (s.i:Int),.int .i64 (s.c:Int),.slice bN lN cN,.slice bS lS cS,.slice bC lC cC] rfl rfl (Hu _ _ _) sy bT ag aJ ?_;intro v' w5 Ae qA _;obtain⟨gq,cq,rfl,_,_⟩:=Ae.form ag)
    replace qA:(w4.alloc (.cells #[.int .i64 (s.k:Int),.int .i64 (s.n:Int),.int .i64 (s.i:Int),.int .i64 (s.c:Int),.slice bN lN cN,.slice bS lS cS,.slice bC lC cC] 41)).grownBy w5 (Value.slice bt (CS bs j).length ct).ownBlock:=qA;have b5:Below (gv+1) w4 w5:=(((aO _ w4).alloc (ay _) _).mono (show gv+1<=w4.heap.size from hg4)).grown qA aJ (λk hk=>(z6.own.lt k hk).1);have t5:=(z6.Ag (w':=w4.alloc (.cells #[.int .i64 (s.k:Int),.int .i64 (s.n:Int),.int .i64 (s.i:Int),.int .i64 (s.c:Int),.slice bN lN cN,.slice bS lS cS,.slice bC lC cC] 41)) (λb _ rq=>dI _ _ b rq)).more (s:=s) (oN3.alloc _) (oS3.alloc _) (oC3.alloc _) qA Ae;rw[<-TP]at t5;exact⟨⟨j+1,_,_,_,ag,aA,⟨z4.trans (tX.of b5) ag,z5.of_block (b5.block gv (dZ _)),hlo,t5⟩⟩,jV⟩
  .obtain rfl:j=n:=ag;have E5:¬((j:Int)<(j:Int)):=ag;go_wp2;exact qZ _ gv vN vS vC _ wr ⟨_,acI rfl⟩ hI
end
end Go.Proofs.Y
namespace Go.Proofs.Y
open YtlghjjennhpjeaaGreatDoor
open Go.Proofs.Tryz
open Go.RowKit Go.Deep Go.Lf Go.Conc Go.ConcN Go.Gh Go.Hp
section
variable {X:Nat->Prop}{Y:Nat->aZ}{D:Nat->ah->aN->Prop}{Stop:aI->ah->Prop}{w:ah}{cs:aT}{fr:aS}{gv n:Nat}{vt vb ve:ai}{T:aH}
theorem aql(uk:zN X D)(hT:TE1 gv n vt T)
  (qZ:∀T',TE1 gv n vt T'->uN prog X Y D Stop 10 (ahJ T'::cs) [.code xP] ⟨#[vt]++Array.replicate 34 undef,[]⟩ w):
  uN prog X Y D Stop 5 cs [.code aag] ⟨T,[]⟩ w:=by
 obtain⟨g,rfl⟩:=hT;unfold Tdc;rw[alc];refine Az uk rfl (Fj uk ?_);rw[afH];simp only[List.range,List.range.loop];refine rf rC uk vt jU rfl ak (λz _=>bV) ?_;walk_nrm;refine DT uk jU rfl aF func10 ak (c:=xP) ak (vs:=#[vt]) (n:=34) jF ak ?_;unfold ahJ at qZ;exact qZ _ ⟨_,acI rfl⟩
theorem alM(uk:zN X D)(hT:TE1 gv n vt T)
  (qZ:∀T',TE2 gv n vb ve T'->yu prog X Y D Stop none [] 5 cs [.code acH] T' w):
  ∀z,rG X Y z w->sU prog D Stop (G ((ahJ T).finish (.tuple #[vb,ve])) cs) z:=by
 rw[show ahJ T=Dn none [] 5 T (.inRegion R_ [1,2,3,4,5,6]::[.code acH])from rfl];rw[DU jU];show yu _ _ _ _ _ _ _ _ _ _ _ _;obtain⟨g,rfl⟩:=hT;unfold Tdc;walk_nrm;refine rf rC uk (.tuple #[vb,ve]) jU rfl ak (λz _=>bV) ?_;walk_nrm;refine rf rC uk vb jU rfl ak (λz _=>bV) ?_;walk_nrm;refine rf rC uk ve jU rfl ak (λz _=>bV) ?_;walk_nrm;refine rf rC uk vb jU rfl ak (λz _=>bV) ?_;walk_nrm;refine rf rC uk ve jU rfl ak (λz _=>bV) ?_;walk_nrm;exact xh uk (qZ _ ⟨_,acI rfl⟩)
theorem aox(uk:zN X D)(hT:TE2 gv n vb ve T)(hE:CY w){e:Nat}(he:(e=0/\ve=.nilIface)\/∃p,sF w 1 ve e p)
  (qZ:∀w',tX w.heap.size w w'->∀z,rG X Y z w'->sU prog D Stop (G (fr.finish (.tuple #[vb,.slice (some ⟨gv,0,none⟩) n n,.int .i64 (e:Int)])) cs) z):
  uN prog X Y D Stop 5 (fr::cs) [.code acH] ⟨T,[]⟩ w:=by
 refine Gv rC uk ak func5 (R:=λy w'=>y=.tuple #[vb,.slice (some ⟨gv,0,none⟩) n n,.int .i64 (e:Int)]/\tX w.heap.size w w') (λτ d=>?_) (λy v' ⟨h1,h2⟩=>h1▸qZ v' h2);have bl:tX w.heap.size w {w with tape:=τ,drawn:=d}:=(tX.refl _ w).tp τ d;have hE':CY {w with tape:=τ,drawn:=d}:=hE
 have k1:Calls prog 11 #[ve] {w with tape:=τ,drawn:=d} λr w'=>∃p:Nat,r=.returned (.tuple #[.int .i64 (e:Int),.int .i64 (p:Int)])/\Below ({w with tape:=τ,drawn:=d}:ah).heap.size {w with tape:=τ,drawn:=d} w':=by
  rcases he with⟨rfl,rfl⟩|⟨p,hc⟩
  .refine(Ny _).mono ?_;rintro r w' ⟨rfl,hb⟩;exact⟨0,rfl,hb⟩
  .refine(Hw 1 ag ve e p _ (OO τ d hc) hE').mono ?_;rintro r w' ⟨rfl,hb⟩;exact⟨p,rfl,hb⟩
 generalize({w with tape:=τ,drawn:=d}:ah)=wA at bl k1⊢;obtain⟨f,rfl⟩:=hT;unfold Tdc
 conv in acH=>simp only[acH,aag,yj,rX,Tryz.f5,bf]
 go_wp2_with(first|(go_at_call 11;(with_reducible refine k1.mono ?_);rintro r w1 ⟨p,rfl,tV⟩))
 go_ret3
 exact⟨_,rfl,rfl,bl.trans (tX.of tV) bl.uo⟩
end
def aga(M:Nat)(sh:Nat->vZ)(vb:ai)(e:Nat)(w:ah):Prop:=
 (e≠0/\vb=.slice none 0 0/\(G5 M sh e\/(e=13/\G5 M sh 0/\¬∃l,D8 M sh l)))\/
 (e=0/\G5 M sh 0/\∃l gb vd,D8 M sh l/\(∀l',D8 M sh l'->l'=l)/\vb=.slice (some ⟨gb,0,none⟩) (sh 0).names.length (sh 0).names.length/\CB (sh 0).names (sh 0).sizes l gb (sh 0).names.length vd w)
theorem CB.sub{ns:List (aj)}{sz:aC}{l:aj}{g i:Nat}{vd:Nat->ai}{w w':ah}(h:CB ns sz l g i vd w)(hs:Sub w w'):CB ns sz l g i vd w':=by refine⟨?_,λj hj=>ahN (h.dat j hj) hs⟩;obtain⟨c,h1,h2,h3⟩:=h.row;exact⟨c,hs.2 _ _ _ _ h1,h2,h3⟩
theorem aaU{Fin:Machine->Trace->Prop}(yP:∀m m' ops t,stepT prog m=(.next m',ops)->Fin m' (t++ops)->Fin m t){X:Nat->Prop}{Y:Nat->aZ}{e:Nat}{gs:dD}{W v0:ah}{sl:Option (Nat×Nat)}{t:Trace}{qq:Nat->Nat}{fr:aS}{cs:aT}{n cap:Nat}{bi:aW}{bs:Nat->aj}{vi:Nat->ai}{a:Addr}
  (h0:gs[0]?=some (G ((base 5).at ⟨#[.slice bi n cap]++Array.replicate 55 undef,[]⟩ [.code yj]) (fr::cs))) (hB:LU prog (wX X) e gs W t qq) (hs:rG X Y W v0)
  (hS:SlB v0 bi n bs vi) (hn:n<=1048576) (hGl:Gl a v0) (he:e+256<2147483648)
  (qZ:∀(e':Nat)(g:Nat->Nat)(vb:ai)(er gv:Nat)(X':Nat->Prop)(QG:dD)(W':ah)(sl':Option (Nat×Nat))(t':Trace)(q':Nat->Nat)(Y':Nat->aZ)(v':ah),e'<=e+256->Prm (CS bs n).length g->(∀i,i+1<(CS bs n).length->(xR (CS bs n) (g i)).i<=(xR (CS bs n) (g (i+1))).i)->QG[0]?=some (G (fr.finish (.tuple #[vb,.slice (some ⟨gv,0,none⟩) n n,.int .i64 (er:Int)])) cs)->
   LU prog (wX X') e' QG W' t' q'->rG X' Y' W' v'->(∀b,X b->X' b)->(∀b,X' b->X b\/W.heap.size<=b)->Sub v0 v'->KpX X W W'->(∀i,i<n->v'.cell? ⟨gv,i,none⟩=some (.int .i64 ((Ua (bs i):Nat):Int)))->aga (CS bs n).length (λi=>xR (CS bs n) (g i)) vb er v'->Fin (crowd QG W' sl') t'):
  Fin (crowd gs W sl) t:=by
 let St:aI->ah->Prop:=λgr W=>∃(T:aH)(gv:Nat)(vN vS vC:Nat->ai)(vt:ai)(v1:ah),TE1 gv n vt T/\DI v0 gv bs n n vN vS vC vt v1/\gr=G ((base 10).at ⟨#[vt]++Array.replicate 34 undef,[]⟩ [.code xP]) (ahJ T::fr::cs)/\rG X Y W v1
 have key:=aow (Stop:=St) (Y:=Y) (cs:=fr::cs) (cap:=cap) (BV X) hS hn hGl (λT gv vN vS vC vt v1 a1 a2=>aql (BV X) a1 λT' a1' y hy=>.stop λd=>⟨T',gv,vN,vS,vC,vt,v1,a1',a2,rfl,hy.at d⟩);refine late (Fin:=Fin) (Shun:=wX X) (e:=e) yP (λ_ _ _ h=>h) (λgs1 a1 W1 sl1 t1 q1 h01 uw yQ=>?_) (key W hs) W.drawn gs sl t qq h0 hB;obtain⟨T,gv,vN,vS,vC,vt,v1,hT,hI,rfl,Ai⟩:=uw W1.drawn;replace Ai:rG X Y W1 v1:=Ai;clear key uw;have NU:=Dl hs Ai hI.xG;have T_:=xn hI.xG;have wW:=NU.size;obtain⟨bo,cp,rfl,hSd⟩:=hI.tk.sds (Jj bs n);have TQ:=Tt bs n;refine afE yP h01 yQ Ai hSd ag (λi hi=>Jj bs n _ (by simp[xR,bQ hi])) he ?_;intro e2 g y X2 gs2 W2 sl2 t2 q2 Y2 v2 he2 hP QP h02 zJ Gn hXa hXb acA SY hA;have aiG:=T_.trans acA;have hE2:CY v2:=(hGl.sub aiG).aoo;have RQ:∀b,X2 b->X b\/W.heap.size<=b:=λb hb=>(hXb b hb).imp id λh=>ag
 have alN:∀v3,Sub v2 v3->∀i,i<n->v3.cell? ⟨gv,i,none⟩=some (.int .i64 ((Ua (bs i):Nat):Int)):=λv3 h3 i hi=>by have:=hI.row.cell (i:=i) hi;rw[ax hi]at this;exact(acA.trans h3).cell this
 have fin:∀(vb ve:ai)(er:Nat),y=.tuple #[vb,ve]->((er=0/\ve=.nilIface)\/∃p,sF v2 1 ve er p)->aga (CS bs n).length (λi=>xR (CS bs n) (g i)) vb er v2->(∀v3,Sub v2 v3->aga (CS bs n).length (λi=>xR (CS bs n) (g i)) vb er v3)->Fin (crowd gs2 W2 sl2) t2:=λvb ve er hy hv _ hR=>by
  subst hy
  let St4:aI->ah->Prop:=λgr W=>∃v3,tX v2.heap.size v2 v3/\gr=G (fr.finish (.tuple #[vb,.slice (some ⟨gv,0,none⟩) n n,.int .i64 (er:Int)])) cs/\rG X2 Y2 W v3
  have YL:=alM (Stop:=St4) (Y:=Y2) (cs:=fr::cs) (w:=v2) (vb:=vb) (ve:=ve) (BV X2) hT (λT4 hT4=>FN.2 (aox (Stop:=St4) (BV X2) hT4 hE2 hv (λw' b1 z hz=>.stop λd=>⟨w',b1,rfl,hz.at d⟩)));refine late (Fin:=Fin) (Shun:=wX X2) (e:=e2) yP (λ_ _ _ h=>h) (λYv a4 W4 sl4 t4 q4 h04 uw xX=>?_) (YL W2 Gn) W2.drawn gs2 sl2 t2 q2 h02 zJ;obtain⟨v3,b1,rfl,b3⟩:=uw W4.drawn;replace b3:rG X2 Y2 W4 v3:=b3;have zM:=xn b1;exact qZ e2 g vb er gv X2 Yv W4 sl4 t4 q4 Y2 v3 he2 hP QP h04 xX b3 hXa RQ (aiG.trans zM) ((NU.trans SY λx hx=>.inl hx).trans (Dl Gn b3 b1) RQ) (alN v3 zM) (hR v3 zM)
 rcases hA with⟨er,ev,p,hE,hne,hy,hc⟩|⟨hE,PK,ev,p,hy,hc⟩|⟨hE,l,gb,vd,hF,hU,hy,hC⟩
 .exact fin _ _ er hy (.inr ⟨p,hc⟩) (.inl ⟨hne,rfl,.inl hE⟩) λv3 _=>.inl ⟨hne,rfl,.inl hE⟩
 .exact fin _ _ 13 hy (.inr ⟨p,hc⟩) (.inl ⟨aB,rfl,.inr ⟨rfl,hE,PK⟩⟩) λv3 _=>.inl ⟨aB,rfl,.inr ⟨rfl,hE,PK⟩⟩
 .exact fin _ _ 0 hy (.inl ⟨rfl,rfl⟩) (.inr ⟨rfl,hE,l,gb,vd,hF,hU,rfl,hC⟩) λv3 h3=>.inr ⟨rfl,hE,l,gb,vd,hF,hU,rfl,hC.sub h3⟩
end Go.Proofs.Y
namespace Go.Proofs.Y
open YtlghjjennhpjeaaGreatDoor
open Go.Proofs.Tryz
open Go.RowKit Go.Deep
structure BlS(w:ah)(bo:aW)(m:Nat)(ns D:Nat->aj)(vd:Nat->ai):Prop where
 cells:0<m->∃b o,bo=some ⟨b,o,none⟩/\∀i,i<m->w.cell? ⟨b,o+i*2,none⟩=some (.string ⟨(ns i).toArray⟩)/\w.cell? ⟨b,o+i*2+1,none⟩=some (vd i)
 dat:∀i,i<m->qP w (vd i) (rP (D i))
end Go.Proofs.Y
namespace Go.Proofs.Y
open YtlghjjennhpjeaaGreatDoor
open Go.Proofs.Tryz
open Go.RowKit Go.Deep Go.Lf Go.Conc Go.Hp
section
variable {X:Nat->Prop}{Y:Nat->aZ}{D:Nat->ah->aN->Prop}{Stop:aI->ah->Prop}{w:ah}{h0 K N C m:Nat}{f:Nat->rU}{Dt:Nat->aj}{xs:aC}{pb:Nat}{vb vt va:ai}
structure ShI(N bh:Nat)(L:Nat->aj)(w:ah):Prop where
 at_:∀i,i<N->∃v,w.cell? ⟨bh,i,none⟩=some v/\aoy w v (L i)
end
end Go.Proofs.Y
namespace Go.Proofs.Y
open YtlghjjennhpjeaaGreatDoor
open Go.Proofs.Tryz
open Go.RowKit Go.Deep Go.Lf Go.Conc Go.ConcN Go.Gh Go.Hp
open Go.ConcR (Payload WgAt wgBlock)
structure Kz(h0:Nat)(w w':ah):Prop where
 os:w'.os=w.os
 output:w'.output=w.output
 size:w.heap.size<=w'.heap.size
 block:∀b,b<h0->w'.heap[b]?=w.heap[b]?
theorem Kz.trans{h0:Nat}{a b c:ah}(h:Kz h0 a b)(h':Kz h0 b c):Kz h0 a c:=⟨h'.os.trans h.os,h'.output.trans h.output,bF h.size h'.size,λx hx=>(h'.block x hx).trans (h.block x hx)⟩
theorem aiH{h0:Nat}{X:Nat->Prop}{Y:Nat->aZ}{W W' v v':ah}(hs:rG X Y W v)(xk:rG X Y W' v')(hb:tX h0 v v')(hX:∀b,X b->h0<=b):Kz h0 W W':=by obtain⟨τ,d,h⟩:=hs;obtain⟨τ',d',h'⟩:=xk;refine⟨h'.os.trans (nM (show v'.os=v.os from hb.os) h.os.symm),h'.out.trans (nM (show v'.output=v.output from hb.output) h.out.symm),?_,λb qB=>yg.agree h h' (λhx=>by have:=hX b hx;omega) (hb.blk qB)⟩;have e1:W.heap.size=v.heap.size:=h.size;have e2:W'.heap.size=v'.heap.size:=h'.size;have:=hb.uo;omega
theorem KpX.kz{h0:Nat}{X:Nat->Prop}{W W':ah}(h:KpX X W W')(hX:∀b,X b->h0<=b)(hW:h0<=W.heap.size):Kz h0 W W':=⟨h.os,h.output,h.size,λb hb=>h.block b ag (λhx=>by have:=hX b hx;omega)⟩
end Go.Proofs.Y
namespace Go.Proofs.Y
open YtlghjjennhpjeaaGreatDoor
open Go.Proofs.Tryz
open Go.RowKit
theorem ann:prog.globalNamed "cairn/sum.fourSteps" =some 3:=ak
theorem aqm:(prog.globals[3]?).map (·.type)=some 216:=ak
theorem aqn:prog.globalNamed "internal/strconv.uint64pow10" =some 4:=ak
theorem arS:(prog.globals[4]?).map (·.type)=some 227:=ak
theorem aiI:prog.globalNamed "cairn/fault.TooEarly" =some 0:=ak
theorem aoz:(prog.globals[0]?).map (·.type)=some 45:=ak
theorem aqo:prog.globalNamed "errors.errorType" =some 1:=ak
theorem star: "*" ++ "errors.errorString" = "*errors.errorString" :=aB
theorem alO(u:aG)(h:prog.typeName? 3 u=some "*errors.errorString"):u=234:=
 typeName_ptr_named (nm:= "errors.errorString") (by rw[star];kernel_rfl) ak aB u (by rw[star];exact h)
theorem aqp:(prog.cutTypes.find? (·.1== "internal/reflectlite.rtype")).map (·.2)=some 163:=ak
theorem aoA:prog.types.size=265:=ak
theorem aiJ:((List.range 265).filter λt=>prog.rowNamed t [101,114,114,111,114])=[45]:=ak
theorem UI{L:List (String×DataW Unit)}{W:ah}(h:laidMetH prog L W)(n:String)(d:DataW Unit)(hf:L.filter (λx=>x.1==n)=[(n,d)])(hn:d.handleName?.isNone=true):laidMet prog [(n,d)] W:=by have:=h.filter (λx=>x.1==n);rw[hf]at this;rwa[MakeChecks.laidMetH_plain _ _ _ (by simp[hn])]at this
theorem aiv{W:ah}(h:laidMetH prog Rows.decodesUptoRow.laid W):LQ W:=by
 have h1:=UI h "cairn/sum.fourSteps" Rows.laid_cairn_sum_fourSteps aF aF
 have hT:Lib.TabIs prog W "cairn/sum.fourSteps" .u64 (FX.map λ(n:Nat)=>(n:Int)):=
  Lib.tabIs_of_head ann aqm underlying216 underlying154 ak ak h1
 have hc:∀i,i<16->W.cell? ⟨3,i,none⟩=some (.int .u64 ((FX.getD i 0:Nat):Int)):=by intro i hi;have:=hT.cell ann i (by simpa[FX]using hi);rw[this];simp only[bG,dV];cases FX[i]?<;>simp
 exact⟨rY (hc 0 ag),hc⟩
theorem aiu{W:ah}(h:laidMetH prog Rows.decodesUptoRow.laid W):Pow W/\4<W.heap.size:=by have h1:=UI h "internal/strconv.uint64pow10" Rows.laid_internal_strconv_uint64pow10 aF aF;have hT:Pow W:=Lib.tabIs_of_head aqn arS underlying227 underlying154 ak ak h1;exact⟨hT,rY (Lib.TabIs.cell hT aqn 0 aB)⟩
theorem acY{W:ah}(h:laidMetH prog Rows.decodesUptoRow.laid W):∃a,wU W a:=by have h1:=UI h "cairn/fault.TooEarly" Rows.laid_cairn_fault_TooEarly aF aF;obtain⟨a,s,hv,_⟩:=laid_sentinel h1 aiI aoz underlying45 alO underlying234 underlying254 rfl rfl underlying9 ak ak;exact⟨a,by unfold wU;simpa using World.var?_cell aiI hv 0⟩
theorem af6{W:ah}(h:laidMetH prog Rows.decodesUptoRow.laid W):CY W:=by
 have h':=(laidMetH_iff.1 h).2;obtain⟨name,u,ty,e1,e2,e3,e4,e5⟩:=h' ("errors.errorType",Rows.laid_errors_errorType) (List.mem_filter.2 ⟨by simp[Rows.decodesUptoRow],rfl⟩);have en:name=[101,114,114,111,114]:=(gu e1).symm;subst en;obtain rfl:=gu (aqp.symm.trans e2);have hm:ty∈(List.range 265).filter λt=>prog.rowNamed t [101,114,114,111,114]:=List.mem_filter.2 ⟨jM.2 (by rw[<-aoA];exact e3),e4⟩
 rw[aiJ]at hm;obtain rfl:=iO.1 hm;have hh:typeHandle prog 45=.pointer (some ⟨7,45,none⟩):=ak;rw[hh]at e5;unfold CY;simpa using World.var?_cell aqo e5 0
end Go.Proofs.Y
namespace Go.Proofs.Y
open YtlghjjennhpjeaaGreatDoor
open Go.Proofs.Tryz
open Go.RowKit Go.Deep Go.Hp
structure Wn(B:Nat)(ns:List (aj))(sz:aC)(l:aj)(i:Nat)(f:Nat->rU)(vo:ai)(w:ah):Prop where
 row:w.ownsRow B 63 2 vo i (tY i f)
 dat:∀j,j<i->(f j).k=ns.getD j []/\w.ownsRow B 5 1 (f j).d (Oa sz l j).length (rP (Oa sz l j))
theorem Wn.more{B:Nat}{ns:List (aj)}{sz:aC}{l:aj}{i:Nat}{f:Nat->rU}{vo v':ai}{w w1 wa w2:ah}{e:rU}(h:Wn B ns sz l i f vo w)(tV:Below w.heap.size w w1)(ho1:w1.ownsRow B 5 1 e.d (Oa sz l i).length (rP (Oa sz l i)))(he:e.k=ns.getD i [])(ha:Below w1.heap.size w1 wa)(hg:wa.grownBy w2 vo.ownBlock)(ho:w2.ownsRow B 63 2 v' (i+1) (tY i f++[.string ⟨e.k.toArray⟩,e.d])):
  Wn B ns sz l (i+1) (λj=>if j=i then e else f j) v' w2:=by
 have s1:=tV.size;have s2:=ha.size;refine⟨?_,λj hj=>?_⟩
 .rw[yD,ax rfl,Fp (g:=f) λj hj=>iT];exact ho
 .by_cases e1:j=i
  .subst e1;rw[ax rfl];refine⟨he,qH ho1 λg um=>?_⟩;have hl:=(ho1.lt g um).2;rw[hg.block g ag (λe=>?_),ha.block g hl];have hr:=qH h.row λx hx=>tV.block x (h.row.lt x hx).2
   exact x8 ho1 hr aB um e.symm
  .rw[au e1];obtain⟨d1,d2⟩:=h.dat j ag;refine⟨d1,qH d2 λg um=>?_⟩;have hl:=(d2.lt g um).2;rw[hg.block g ag (λe=>x8 d2 h.row aB um e.symm),ha.block g ag,tV.block g hl]
theorem aeU(x:ByteArray)(a:aW)(n c:Nat):∀u∈[Value.string x,.slice a n c],u.oneCell'=true:=by exact axC
theorem Wn.mono{B B':Nat}{ns:List (aj)}{sz:aC}{l:aj}{i:Nat}{f:Nat->rU}{vo:ai}{w:ah}(h:Wn B ns sz l i f vo w)(hB:B'<=B):Wn B' ns sz l i f vo w:=
 ⟨h.row.mono hB,λj hj=>⟨(h.dat j hj).1,(h.dat j hj).2.mono hB⟩⟩
theorem agb(s:vZ)(vN vS vC:ai)(k go B0:Nat)(ov:Nat->ai)(ls:Nat->aj)(w:ah)(hN:qP w vN (uU s.names))(hS:qP w vS (uH s.sizes))(Je:s.names.length=s.sizes.length)(E5:s.names.length<=1048576)(hR:∀j,j<k->w.cell? ⟨go,j,none⟩=some (ov j))(hD:∀j,j<k->w.ownsRow B0 5 1 (ov j) (ls j).length (rP (ls j)))
  (hk:k<=128) (hT:(qM ls k).length<=16777216) (hsum:s.sizes.sum<=(qM ls k).length):
  Calls prog 14 #[.agg (Me s vN vS vC).toArray,.slice (some ⟨go,0,none⟩) k k] w λr w'=>Below w.heap.size w w'/\∃vo f,r=.returned vo/\Wn w.heap.size s.names s.sizes (qM ls k) s.names.length f vo w':=by
 obtain⟨i0,zo,xY,wW,vV⟩:=cO Hy;obtain⟨i1,F_,hy0,TR,hy2⟩:=cO Tryz.UJ;unfold Me;have b0:Below w.heap.size w (w.alloc (.cells #[.int .i64 (s.k:Int),.int .i64 (s.n:Int),.int .i64 (s.i:Int),.int .i64 (s.c:Int),vN,vS,vC] 41)):=(aO _ _).alloc (ay _) _;have ra:=ql.made w [.int .i64 (s.k:Int),.int .i64 (s.n:Int),.int .i64 (s.i:Int),.int .i64 (s.c:Int),vN,vS,vC] 41;have a4:=ra.cell (i:=4) rfl;have a5:=ra.cell (i:=5) rfl;have ltx:w.heap.size<(w.alloc (.cells #[.int .i64 (s.k:Int),.int .i64 (s.n:Int),.int .i64 (s.i:Int),.int .i64 (s.c:Int),vN,vS,vC] 41)).heap.size:=aA;clear ra;obtain⟨pn,cn,rfl⟩:=hN.len;obtain⟨ps,cs,rfl⟩:=hS.len;rw[xx]at*;rw[yE]at*;have HL:Hid (s.names.length=s.sizes.length):=Je;clear Je;go_enter func14,ntmps14;go_wp2;generalize Og:w.alloc (.cells #[.int .i64 (s.k:Int),.int .i64 (s.n:Int),.int .i64 (s.i:Int),.int .i64 (s.c:Int),.slice pn s.names.length cn,.slice ps s.sizes.length cs,vC] 41)=W0 at*;clear Og;have p0:W0.ownsRow W0.heap.size 5 1 (.slice none 0 0) (qM ls 0).length (rP (qM ls 0)):=bY _ _ _ _;have Ti:=b0.size;generalize hh:W0.heap.size=h at*
 go_loopw [5,6] (λva vj wr=>∃j:Nat,j<=k/\vj=.int .i64 (j:Int)/\wr.ownsRow h 5 1 va (qM ls j).length (rP (qM ls j))/\Below h W0 wr) (λ_ vj _=>k-(intOf vj).toNat)
 case atStart=>exact⟨0,ag,rfl,p0,aO _ _⟩
 case round=>
  clear p0;obtain⟨j,hj,rfl,ho,hb⟩:=hrel;have hs:h<=wr.heap.size:=hh▸hb.size;have CU:Below w.heap.size w wr:=b0.trans (hb.mono Ti);by_cases qB:j<k
  .have xZ:(j:Int)<(k:Int):=ag;have c0:=qK CU (ay _) (hR j qB)
   have hlen:(qM ls j).length+(ls j).length<=16777216:=by have:=Oy ls (i:=j+1) (n:=k) ag;simp only[qM,bM]at this;omega
   have hDj:=qH (hD j qB) λg hg=>CU.block g ((hD j qB).lt g hg).2
   rcases id hDj.2 with⟨ea,el⟩|⟨g,cap,_,ea,_⟩
   .rw[ea]at c0;have ahv:ls j=[]:=kW.1 el
    go_wp2_with(at_builtin;refine wpList_append_own_none rfl _ _ 24 rfl h 5 i0 1 underlying24 zo _ _ _ rfl ho rfl ?_)
    go_roundw
    case rel=>exact⟨j+1,ag,aV,by simp only[qM,ahv,dX];exact ho,hb⟩
    case measure=>simp[intOf];omega
   .have hL:=yT hDj;rw[ea]at c0 hL
    have hcs:∀i u,(rP (ls j))[i]?=some u->wr.cell? ((⟨g,0,none⟩:Addr).add i)=some u:=λi u hu=>by obtain⟨b',o',e,hc⟩:=hL.get hu;cases e;rw[Addr.add_mid];exact hc
    have C_:rP (qM ls (j+1))=rP (qM ls j)++rP (ls j)/\(qM ls (j+1)).length=(qM ls j).length+(ls j).length:=⟨by simp[qM,rP],by simp[qM]⟩;clear hDj hL ea;generalize hq:(ls j).length=q at*
    go_wp2_with(at_builtin;refine di _ rfl _ _ 24 rfl h 5 i0 (.int .u8 0) 1 1 underlying24 zo xY wW vV rfl aB _ _ _ rfl ho ⟨g,0,none⟩ q cap (rP (ls j)) rfl (by rw[ru,hq,ja]) hcs (UK _) bT ag hs ?_;intro v4 w4 ho4 qA _;have Xe:=hb.trans (tJ ho hs (aO _ _) qA (ay _)))
    go_roundw
    case rel=>exact⟨j+1,ag,aV,by rw[C_.1,C_.2];exact ho4,Xe⟩
    case measure=>simp[intOf];omega
  .obtain rfl:j=k:=ag;have aat:¬((j:Int)<(j:Int)):=ag;clear hR hD;generalize Oc:qM ls j=l at*;have HJ:Hid (qM ls j=l):=Oc;clear Oc qB aat hj
   obtain⟨bl,cl,rfl,hbg,LP⟩:∃bl cl,u5=.slice bl l.length cl/\(bl=none/\cl=0\/∃g,bl=some ⟨g,0,none⟩)/\l.length<=cl:=by
    rcases ho.2 with⟨h1,h2⟩|⟨g,c,_,h1,h2,h3,h4,_⟩
    .exact⟨none,0,by rw[h1,h2],.inl ⟨rfl,rfl⟩,ag⟩
    .exact⟨_,c,h1,.inr ⟨g,rfl⟩,ag⟩
   have hal:=yT ho;have q0:Wn wr.heap.size s.names s.sizes l 0 (λ_=>⟨[],none,0,0⟩) (.slice none 0 0) wr:=⟨bY _ _ _ _,λj hj=>absurd hj ag⟩;have hws:w.heap.size<=wr.heap.size:=CU.size;have b4:=qK hb ag a4;have b5:=qK hb ag a5;have gN:=hN.below CU;have gS:=hS.below CU;clear a4 a5 ltx hN hS ho b0 hb Ti hs hh;go_wp2;generalize hB:wr.heap.size=B at*;generalize wr=wx at*
   go_loopw [7,8,9] (λvo va vi wq=>∃(i:Nat)(f:Nat->rU),i<=s.names.length/\vi=.int .i64 (i:Int)/\va=.int .i64 ((pre s.sizes i:Nat):Int)/\Wn B s.names s.sizes l i f vo wq/\Below B wx wq) (λ_ _ vi _=>s.names.length-(intOf vi).toNat)
   case atStart=>exact⟨0,_,ag,rfl,QO,q0,aO _ _⟩
   case round=>
    clear q0;obtain⟨i,f,hi,rfl,rfl,hq,hb⟩:=hrel;have hsB:B<=wr.heap.size:=hB▸hb.size;by_cases qB:i<s.names.length
    .have akR:(i:Int)<(s.names.length:Int):=ag;have Ku:(i:Int)<(s.sizes.length:Int):=by rw[<-HL.out];omega
     have QI:=Eh (sz:=s.sizes) (i:=i) avG;have BJ:=Y8 s.sizes (i+1);obtain⟨gn,on,rfl,c1⟩:=gN.get (Aq qB);obtain⟨gs,os,rfl,c2⟩:=gS.get (Dx (l:=s.sizes) (j:=i) avG);have cells:∀w',Below B wx w'->w'.cell? ⟨w.heap.size,4,none⟩=some (.slice (some ⟨gn,on,none⟩) s.names.length cn)/\w'.cell? ⟨w.heap.size,5,none⟩=some (.slice (some ⟨gs,os,none⟩) s.sizes.length cs)/\w'.cell? ⟨gn,on+i,none⟩=some (.string ⟨(s.names.getD i []).toArray⟩)/\w'.cell? ⟨gs,os+i,none⟩=some (.int .i64 ((s.sizes.getD i 0:Nat):Int)):=λw' A8=>⟨qK A8 ag b4,qK A8 ag b5,qK A8 ag c1,qK A8 ag c2⟩
     have el:(Oa s.sizes l i).length=s.sizes.getD i 0:=by unfold Oa;rw[jf,lY];omega
     have YC:∀w',Below B wx w'->∀g,bl=some ⟨g,0,none⟩->∀x u,(rP (Oa s.sizes l i))[x]?=some u->w'.cell? ((⟨g,pre s.sizes i,none⟩:Addr).add x)=some u:=λw' A8 g hg x u hu=>by subst hg;obtain⟨b',o',e',hc⟩:=(Qg hal (s:=pre s.sizes i) (t:=s.sizes.getD i 0) ag (s.sizes.getD i 0) (ay _)).get hu;cases e';rw[Addr.add_mid];exact qK A8 ag au5
     obtain⟨e4,e5,e1,e2⟩:=cells wr hb;have uD:((pre s.sizes i:Nat):Int)<=((pre s.sizes i:Nat):Int)+((s.sizes.getD i 0:Nat):Int):=ag;have hpc:((pre s.sizes i:Nat):Int)+((s.sizes.getD i 0:Nat):Int)<=(cl:Int):=ag;have hpd:((pre s.sizes i:Nat):Int)+((s.sizes.getD i 0:Nat):Int)<=16777216:=ag;have I8:=λw1 e tV ho1 he wa v' w2 ha hg ho=>hq.more (w1:=w1) (e:=e) tV ho1 he (wa:=wa) ha (v':=v') (w2:=w2) hg ho
     have hq':=hq.row;have hl2:pre s.sizes i+s.sizes.getD i 0<=l.length:=ag;clear b4 b5 gN gS hq c1 c2;generalize Oa s.sizes l i=pc at*;generalize pre s.sizes i=p at*;generalize s.sizes.getD i 0=q at*;generalize s.names.getD i []=nm at*;simp only[el]at I8;rcases hbg with⟨rfl,rfl⟩|⟨g,rfl⟩
     .obtain rfl:p=0:=ag;obtain rfl:q=0:=ag;have hn1:pc=[]:=jQ el;subst hn1;have tV:=aO wr.heap.size wr;have ho1:wr.ownsRow B 5 1 (.slice none 0 0) 0 (rP []):=bY _ _ _ _;have e0:((0:Nat):Int)=0:=rfl;rw[e0]at e2;simp only[e0]at cells⊢;clear e0 YC hal uD hpc hpd
      go_wp2_with(first
       |(at_builtin;refine wpList_append_own_none rfl _ _ 24 rfl B 5 i0 1 underlying24 zo _ _ _ rfl ho1 rfl ?_)
       |(at_builtin;refine di _ rfl _ _ 25 rfl B 63 i1 (.agg #[.string ⟨#[]⟩,.slice none 0 0]) 2 40 underlying25 F_ hy0 TR hy2 rfl aB _ _ _ rfl (hq'.alloc _) ⟨wr.heap.size,0,none⟩ 1 1 [.string ⟨nm.toArray⟩,.slice none 0 0] rfl rfl (cell_two_new _ _ _ _) (aeU _ _ _ _) bT ag aJ ?_;intro v2 w2 BJ qA _;have hn2:=I8 wr ⟨nm,none,0,0⟩ tV ho1 rfl _ v2 w2 ((aO wr.heap.size wr).alloc (ay _) _) qA BJ;have rq:=hb.trans ((tJ hq' hsB ((aO wr.heap.size wr).alloc (ay _) _) qA (ay _)));obtain⟨x4,x5,x1,x2⟩:=cells w2 rq;clear qA BJ hq'))
      go_roundw
      case rel=>exact⟨i+1,_,ag,aV,by rw[QI];rfl,hn2,rq⟩
      case measure=>simp[intOf];omega
     .obtain⟨ad,hif,hcd⟩:∃ad,(if cl=p then(some ⟨g,0,none⟩:aW)else some ⟨g,p,none⟩)=some ad/\∀x u,(rP pc)[x]?=some u->wr.cell? (ad.add x)=some u:=by
       by_cases e:cl=p
       .rw[ax e];refine⟨_,rfl,λx u hu=>?_⟩;have:pc=[]:=jQ ag;rw[this]at hu;simp[rP]at hu
       .rw[au e];exact⟨_,rfl,YC wr hb g rfl⟩
      clear YC hal
      go_wp2_with(first
       |(at_builtin;(try rw[hif]);rw[iJ];refine di _ rfl _ _ 24 rfl B 5 i0 (.int .u8 0) 1 1 underlying24 zo xY wW vV rfl aB _ _ _ rfl (bY _ _ _ _) ad q (cl-p) (rP pc) rfl (by rw[ru,el,ja]) hcd (UK _) bT ag hsB ?_;intro v1 w1 ho1 qA _;have tV:Below wr.heap.size wr w1:=(aO wr.heap.size wr).grown qA (ay _) (λx hx=>jZ);have arT:B<=w1.heap.size:=(by have:=tV.size;omega);rw[bJ,dw]at ho1;have EO:=qH hq' (λx hx=>tV.block x (hq'.lt x hx).2);obtain⟨b1,c1,rfl⟩:=yS ho1;obtain⟨x4,x5,x1,x2⟩:=cells w1 (hb.trans (tV.mono hsB));clear qA)
       |(at_builtin;refine di _ rfl _ _ 25 rfl B 63 i1 (.agg #[.string ⟨#[]⟩,.slice none 0 0]) 2 40 underlying25 F_ hy0 TR hy2 rfl aB _ _ _ rfl (EO.alloc _) ⟨w1.heap.size,0,none⟩ 1 1 [.string ⟨nm.toArray⟩,.slice b1 q c1] rfl rfl (cell_two_new _ _ _ _) (aeU _ _ _ _) bT ag aJ ?_;intro v2 w2 BJ qA _;have hn2:=I8 w1 ⟨nm,b1,q,c1⟩ tV ho1 rfl _ v2 w2 ((aO w1.heap.size w1).alloc (ay _) _) qA BJ;have rq:=hb.trans ((tV.mono hsB).trans (tJ EO arT ((aO w1.heap.size w1).alloc (ay _) _) qA (ay _)));obtain⟨x4,x5,x1,x2⟩:=cells w2 rq;clear qA BJ EO))
      go_roundw
      case rel=>exact⟨i+1,_,ag,aV,aV,hn2,rq⟩
      case measure=>simp[intOf];omega
    .obtain rfl:i=s.names.length:=ag;have alP:¬((s.names.length:Int)<(s.names.length:Int)):=ag;have d4:=qK hb ag b4;clear b4 b5;go_wp2;go_ret;exact⟨CU.trans (hb.mono ag),_,rfl,f,by rw[HJ.out];exact hq.mono ag⟩
