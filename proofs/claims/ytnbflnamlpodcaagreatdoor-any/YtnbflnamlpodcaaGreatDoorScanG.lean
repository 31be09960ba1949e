import Derived.Test.YtnbflnamlpodcaaGreatDoorHqB
import Derived.Deep.CutRange
set_option maxHeartbeats 8000000
set_option maxRecDepth 100000
namespace Go.Proofs.Y
open Go.RowKit Go.Deep Go.Hp
theorem Bo(w:World)(l:List Value)(t:TypeId)(j:Nat):(w.alloc (.cells l.toArray t)).cell? ⟨w.heap.size,j,none⟩=l[j]?:=by simp only[World.cell?,dM];simp
theorem D_(w:World)(l:List Value)(t:TypeId):∀j u,l[j]?=some u->(w.alloc (.cells l.toArray t)).cell? ((⟨w.heap.size,0,none⟩:Addr).add j)=some u:=λj u h=>by rw[Addr.add_mid,aS,Bo];exact h
theorem Tryz.af_:(Tryz.prog.info? 184).map (λi=>(i.zero,i.size,i.bytes))=some (some (.agg #[.int .i64 0,.int .i64 0,.int .i64 0,.int .i64 0,.int .i64 0,.slice none 0 0,.slice none 0 0,.slice none 0 0]),8,112):=ag
section
variable {S:Nat->List Value}{B h n:Nat}{f:Nat->qQ}{v:Value}{w:World}
theorem aga(H:HI S B h n f v w):Calls Tryz.prog 61 #[.pointer (some ⟨h,0,none⟩)] w λr w'=>r=.returned (.int .i64 ((n:Nat):Int))/\w'=w:=by have a0:=H.var.cell (i:=0) ae;obtain⟨bo,cap,rfl⟩:=H.slice;clear H;go_enter Tryz.func61,Tryz.ntmps61;exact aqd
theorem HI.push{v':Value}{e:qQ}{wa w1:World}(he:∃b,e.k=[b])(H:HI S B h n f v w)(hB:B<=w.heap.size)(ha:Below w.heap.size w wa)(hg:wa.grownBy w1 v.ownBlock)(ho:w1.ownsRow B 184 8 v' (n+1) (xX (GG S) n f++GG S e)):
  HI S B h (n+1) (λx=>if x=n then e else f x) v' (w1.setCell ⟨h,0,none⟩ v')/\w1.cell? ⟨h,0,none⟩=some v/\w1.frozen? ⟨h,0,none⟩=false/\Below h w (w1.setCell ⟨h,0,none⟩ v')/\B<=(w1.setCell ⟨h,0,none⟩ v').heap.size:=by
 have hlow:=H.low;have hsa:=ha.size;have k:w1.heap[h]?=w.heap[h]?:=(hg.block h ae (λe'=>ap_)).trans (ha.block h ae);have r:=H.var.of_block k;have hbw:Below B w w1:=((ha.mono hB).grown hg ae (λx hx=>(H.own.lt x hx).1));have hs1:=hbw.size;refine⟨⟨(r.set 0 v').congr λi hi=>oZ,?_,hlow,λx hx=>?_⟩,r.cell (i:=0) ae,r.frozen 0,?_,az⟩
 .rw[yC,aj rfl,NL (g:=f) λi hi=>fM];exact dE ho (a:=⟨h,0,none⟩) hlow v'
 .split
  .exact he
  .exact H.sg x ae
 .exact ary
theorem ac3(hS:Oq S)(B h n:Nat)(f:Nat->qQ)(v:Value)(e:qQ)(w:World)(he:∃b,e.k=[b])(H:HI S B h n f v w)(hB:B<=w.heap.size)(hn:n<=1048576)(hp:Hp f n):
  Calls Tryz.prog 60 #[.pointer (some ⟨h,0,none⟩),.int .i64 ((yD e:Nat):Int),.agg (S e.l).toArray] w λr w'=>r=.returned (.tuple #[])/\∃f' v',HI S B h (n+1) f' v' w'/\qK (n+1) (λx=>if x=n then e else f x) f'/\Hp f' (n+1)/\Below h w w'/\B<=w'.heap.size:=by
 obtain⟨i0,hi0,hz0,hz1,hz2⟩:=bg Tryz.af_;have hlow:=H.low;have hex:∀{w0 wa w1:World}{v':Value},HI S B h n f v w0->_:=λ{w0 wa w1 v'} H0 hB0=>HI.push (wa:=wa) (w1:=w1) (v':=v') he H0 hB0;have h1c:=afA hS e;have hcn:=λw t=>D_ w (GG S e) t
 unfold GG at hcn h1c;have cn:=λw t=>Bo w (S e.l) t
 have hnl:=uN hS e;obtain⟨x1,x2,x3,x4,x5,x6,x7,ex⟩:=eight (hS.len e.l);unfold GG at hnl;have e7:GG S e=[.int .i64 ((yD e:Nat):Int),x1,x2,x3,x4,x5,x6,x7]:=by rw[GG,ex]
 rw[e7]at hex;rw[ex]at hcn h1c cn hnl⊢;have b0:Below h w (w.alloc (.cells #[x1,x2,x3,x4,x5,x6,x7] 55)):=(aA _ _).alloc ae _;have H0:HI S B h n f v (w.alloc (.cells #[x1,x2,x3,x4,x5,x6,x7] 55)):=⟨H.var.alloc _,H.own.alloc _,H.low,H.sg⟩;have hB0:B<=(w.alloc (.cells #[x1,x2,x3,x4,x5,x6,x7] 55)).heap.size:=az;have c0:=cn w 55 0;have c1:=cn w 55 1;have c2:=cn w 55 2;have c3:=cn w 55 3;have c4:=cn w 55 4;have c5:=cn w 55 5;have c6:=cn w 55 6;simp only[iL,iM]at c0 c1 c2 c3 c4 c5 c6;obtain⟨bo,cap,rfl⟩:=H.slice;clear H hB cn;go_enter Tryz.func60,Tryz.ntmps60
 go_wp2_with fail
 have a0:=H0.var.cell (i:=0) ae;have a0':=(H0.var.alloc (.cells #[.int .i64 ((yD e:Nat):Int),x1,x2,x3,x4,x5,x6,x7] 184)).cell (i:=0) ae;generalize hw0:w.alloc (.cells #[x1,x2,x3,x4,x5,x6,x7] 55)=w0 at*;clear hw0
 go_region_law ((refine NK rfl _ _ 130 rfl B 184 i0 (.agg #[.int .i64 0,.int .i64 0,.int .i64 0,.int .i64 0,.int .i64 0,.slice none 0 0,.slice none 0 0,.slice none 0 0]) 8 112 Tryz.underlying130 hi0 hz0 hz1 hz2 rfl au _ _ _ rfl ((H0.own.alloc _).drew) ⟨w0.heap.size,0,none⟩ 1 1 [.int .i64 ((yD e:Nat):Int),x1,x2,x3,x4,x5,x6,x7] rfl rfl (hcn _ _) h1c bH ae az ?_;intro v' w1 hown' hgrow hwh;obtain⟨gq,cq,rfl,_,_⟩:=hown'.form ae;obtain⟨H2,d1,d2,hb2,hB2⟩:=hex H0 hB0 (((aA w0.heap.size w0).alloc (ak _) _).drew) hgrow hown'))
 all_goals
  have k3:=Xz hS B h (n+1) n _ _ _ H2 ae (Xv hp);have g0:=H2.var.cell (i:=0) ae;have hbw:=b0.trans hb2;clear H0 H2 a0 a0' c0 c1 c2 c3 c4 c5 c6 d1 d2 b0 hb2 hgrow hwh hex;generalize w1.setCell ⟨h,0,none⟩ (.slice (some ⟨gq,0,none⟩) (n+1) cq)=w2 at*
  go_wp2_with(first|(go_at_call 103;(with_reducible refine k3.mono ?_);rintro r w3 ⟨rfl,f',H3,VU,hp3,hb3⟩))
  go_end0;exact arf
end
section
variable {S:Nat->List Value}{B h n:Nat}{f:Nat->qQ}{v:Value}{w:World}
theorem akk{w:World}{R t:Nat}{z1 z2 z3 z4 z5 z6 z7:Value}(h:w.heap[R]?=some (.cells #[z1,z2,z3,z4,z5,z6,z7] t))(x1 x2 x3 x4 x5 x6 x7:Value):
  (w.cell? ⟨R,0,none⟩=some z1/\w.frozen? ⟨R,0,none⟩=false)/\((w.setCell ⟨R,0,none⟩ x1).cell? ⟨R,1,none⟩=some z2/\(w.setCell ⟨R,0,none⟩ x1).frozen? ⟨R,1,none⟩=false)/\(((w.setCell ⟨R,0,none⟩ x1).setCell ⟨R,1,none⟩ x2).cell? ⟨R,2,none⟩=some z3/\((w.setCell ⟨R,0,none⟩ x1).setCell ⟨R,1,none⟩ x2).frozen? ⟨R,2,none⟩=false)/\((((w.setCell ⟨R,0,none⟩ x1).setCell ⟨R,1,none⟩ x2).setCell ⟨R,2,none⟩ x3).cell? ⟨R,3,none⟩=some z4/\(((w.setCell ⟨R,0,none⟩ x1).setCell ⟨R,1,none⟩ x2).setCell ⟨R,2,none⟩ x3).frozen? ⟨R,3,none⟩=false)/\(((((w.setCell ⟨R,0,none⟩ x1).setCell ⟨R,1,none⟩ x2).setCell ⟨R,2,none⟩ x3).setCell ⟨R,3,none⟩ x4).cell? ⟨R,4,none⟩=some z5/\((((w.setCell ⟨R,0,none⟩ x1).setCell ⟨R,1,none⟩ x2).setCell ⟨R,2,none⟩ x3).setCell ⟨R,3,none⟩ x4).frozen? ⟨R,4,none⟩=false)/\((((((w.setCell ⟨R,0,none⟩ x1).setCell ⟨R,1,none⟩ x2).setCell ⟨R,2,none⟩ x3).setCell ⟨R,3,none⟩ x4).setCell ⟨R,4,none⟩ x5).cell? ⟨R,5,none⟩=some z6/\(((((w.setCell ⟨R,0,none⟩ x1).setCell ⟨R,1,none⟩ x2).setCell ⟨R,2,none⟩ x3).setCell ⟨R,3,none⟩ x4).setCell ⟨R,4,none⟩ x5).frozen? ⟨R,5,none⟩=false)/\(((((((w.setCell ⟨R,0,none⟩ x1).setCell ⟨R,1,none⟩ x2).setCell ⟨R,2,none⟩ x3).setCell ⟨R,3,none⟩ x4).setCell ⟨R,4,none⟩ x5).setCell ⟨R,5,none⟩ x6).cell? ⟨R,6,none⟩=some z7/\((((((w.setCell ⟨R,0,none⟩ x1).setCell ⟨R,1,none⟩ x2).setCell ⟨R,2,none⟩ x3).setCell ⟨R,3,none⟩ x4).setCell ⟨R,4,none⟩ x5).setCell ⟨R,5,none⟩ x6).frozen? ⟨R,6,none⟩=false)/\(((((((w.setCell ⟨R,0,none⟩ x1).setCell ⟨R,1,none⟩ x2).setCell ⟨R,2,none⟩ x3).setCell ⟨R,3,none⟩ x4).setCell ⟨R,4,none⟩ x5).setCell ⟨R,5,none⟩ x6).setCell ⟨R,6,none⟩ x7).heap[R]?=some (.cells #[x1,x2,x3,x4,x5,x6,x7] t):=by
 have h1:(World.setCell _ ⟨R,0,none⟩ x1).heap[R]?=some (.cells #[x1,z2,z3,z4,z5,z6,z7] t):=jy _ R 0 _ t x1 h;have h2:(World.setCell _ ⟨R,1,none⟩ x2).heap[R]?=some (.cells #[x1,x2,z3,z4,z5,z6,z7] t):=jy _ R 1 _ t x2 h1;have h3:(World.setCell _ ⟨R,2,none⟩ x3).heap[R]?=some (.cells #[x1,x2,x3,z4,z5,z6,z7] t):=jy _ R 2 _ t x3 h2;have h4:(World.setCell _ ⟨R,3,none⟩ x4).heap[R]?=some (.cells #[x1,x2,x3,x4,z5,z6,z7] t):=jy _ R 3 _ t x4 h3;have h5:(World.setCell _ ⟨R,4,none⟩ x5).heap[R]?=some (.cells #[x1,x2,x3,x4,x5,z6,z7] t):=jy _ R 4 _ t x5 h4;have h6:(World.setCell _ ⟨R,5,none⟩ x6).heap[R]?=some (.cells #[x1,x2,x3,x4,x5,x6,z7] t):=jy _ R 5 _ t x6 h5;have h7:(World.setCell _ ⟨R,6,none⟩ x7).heap[R]?=some (.cells #[x1,x2,x3,x4,x5,x6,x7] t):=jy _ R 6 _ t x7 h6;exact⟨⟨cell_of _ h 0,uI _ h 0⟩,⟨cell_of _ h1 1,uI _ h1 1⟩,⟨cell_of _ h2 2,uI _ h2 2⟩,⟨cell_of _ h3 3,uI _ h3 3⟩,⟨cell_of _ h4 4,uI _ h4 4⟩,⟨cell_of _ h5 5,uI _ h5 5⟩,⟨cell_of _ h6 6,uI _ h6 6⟩,h7⟩
theorem agb{c:qQ->List Value}{s:Nat}(hc:∀e,(c e).length=s){w:World}{B t n g cap:Nat}{f:Nat->qQ}(h:w.ownsRow B t s (.slice (some ⟨g,0,none⟩) (n+1) cap) (n+1) (xX c (n+1) f)):w.ownsRow B t s (.slice (some ⟨g,0,none⟩) n cap) n (xX c n f):=by
 refine⟨ug hc n f,.inr ?_⟩;rcases h.2 with⟨h1,_⟩|⟨g',cap',cur,h1,h2,h3,h4,h5,h6,h7⟩
 .cases h1
 .cases h1;refine⟨g,cap,cur,rfl,h2,h3,ae,h5,h6,?_⟩;have:=aP (List.take (n*s)) h7;rw[List.take_take,nC (jb s ae),yC,anN kY]at this;rw[this,iJ kY]
theorem Fe{B t s m g:Nat}{v:Value}{xs:List Value}(hv:v.ownBlock≠some g):∀(vs:List Value)(p:Nat)(w:World),w.ownsRow B t s v m xs->(w.setCells g p vs).ownsRow B t s v m xs
 |[],_,_,h=>h
 |u::r,p,_,h=>Fe hv r (p+1) _ (ownsRow_setCell_other h (a:=⟨g,p,none⟩) hv u)
theorem pack{W:World}{g m:Nat}{w1:World}(H:HI S B h n f v W)(k2:∀b,b≠g->W.heap[b]?=w1.heap[b]?)(k3:W.heap.size=m)(b:Bt (some g) w1 W):HI S B h n f v W.drew/\(∀b,b≠g->W.drew.heap[b]?=w1.heap[b]?)/\W.drew.heap.size=m/\Bt (some g) w1 W.drew:=⟨H.Xy,k2,k3,b.Xy⟩
def alT(S:Nat->List Value)(B h n:Nat)(f:Nat->qQ)(v:Value)(w:World)(r:Ending)(w':World):Prop:=r=.returned (.agg (S (f 0).l).toArray)/\∃f' v',HI S B h n f' v' w'/\qK n (JO n f) f'/\Hp f' n/\Below h w w'/\B<=w'.heap.size/\∀b,b<w.heap.size->b≠h->some b≠v.ownBlock->w'.heap[b]?=w.heap[b]?
theorem agc(hS:Oq S)(B h n:Nat)(f:Nat->qQ)(v:Value)(w:World)(H:HI S B h (n+1) f v w)(hB:B<=w.heap.size)(hn:n<=1048576)(hp:Hp f (n+1)):
  Calls Tryz.prog 62 #[.pointer (some ⟨h,0,none⟩)] w λr w'=>alT S B h n f v w r w':=by
 obtain⟨g,cap,rfl,hg,hnc,hcm⟩:=H.form ae;have hcm':cap<=9223372036854775807:=hcm;clear hcm;have hlow:=H.low;have H0:HI S B h (n+1) f (.slice (some ⟨g,0,none⟩) (n+1) cap) (w.alloc (.cells #[.int .i64 0,.int .i64 0,.int .i64 0,.int .i64 0,.slice none 0 0,.slice none 0 0,.slice none 0 0] 55)):=⟨H.var.alloc _,H.own.alloc _,H.low,H.sg⟩;have s0:(w.alloc (.cells #[.int .i64 0,.int .i64 0,.int .i64 0,.int .i64 0,.slice none 0 0,.slice none 0 0,.slice none 0 0] 55)).heap.size=w.heap.size+1:=ai;have r0:=xu (uN hS) H0.own (i:=0) ae;have sx:=hS.one (f 0).l;obtain⟨x1,x2,x3,x4,x5,x6,x7,ex⟩:=eight (hS.len (f 0).l);unfold GG at r0;rw[ex]at r0 sx;obtain⟨p0,p1,p2,p3,p4,p5,p6,p7⟩:=Qm r0;simp only[fF,aS]at p0 p1 p2 p3 p4 p5 p6 p7;obtain⟨t1,t2,t3,t4,t5,t6,t7⟩:=DX sx;have a0:=H0.var.cell (i:=0) ae;have H1:HI S B h (n+1) f (.slice (some ⟨g,0,none⟩) (n+1) cap) ((w.alloc (.cells #[.int .i64 0,.int .i64 0,.int .i64 0,.int .i64 0,.slice none 0 0,.slice none 0 0,.slice none 0 0] 55)).alloc (.cells #[x1,x2,x3,x4,x5,x6,x7] 55)):=⟨H0.var.alloc _,H0.own.alloc _,H0.low,H0.sg⟩
 have nF:((w.alloc (.cells #[.int .i64 0,.int .i64 0,.int .i64 0,.int .i64 0,.slice none 0 0,.slice none 0 0,.slice none 0 0] 55)).alloc (.cells #[x1,x2,x3,x4,x5,x6,x7] 55)).heap[w.heap.size+1]?=some (.cells #[x1,x2,x3,x4,x5,x6,x7] 55):=by rw[<-s0];exact dM _ _
 have nR:((w.alloc (.cells #[.int .i64 0,.int .i64 0,.int .i64 0,.int .i64 0,.slice none 0 0,.slice none 0 0,.slice none 0 0] 55)).alloc (.cells #[x1,x2,x3,x4,x5,x6,x7] 55)).heap[w.heap.size]?=some (.cells #[.int .i64 0,.int .i64 0,.int .i64 0,.int .i64 0,.slice none 0 0,.slice none 0 0,.slice none 0 0] 55):=(bK _ _ _ ae).trans (dM _ _);have b1:Below w.heap.size w ((w.alloc (.cells #[.int .i64 0,.int .i64 0,.int .i64 0,.int .i64 0,.slice none 0 0,.slice none 0 0,.slice none 0 0] 55)).alloc (.cells #[x1,x2,x3,x4,x5,x6,x7] 55)):=((aA _ _).alloc (ak _) _).alloc ae _;have s1:((w.alloc (.cells #[.int .i64 0,.int .i64 0,.int .i64 0,.int .i64 0,.slice none 0 0,.slice none 0 0,.slice none 0 0] 55)).alloc (.cells #[x1,x2,x3,x4,x5,x6,x7] 55)).heap.size=w.heap.size+2:=ai;have a1:=H1.var.cell (i:=0) ae;have ed:((n:Int)+1)-1=(n:Int):=ae;have hnl:(n:Int)<((n+1:Nat):Int):=ae;have hcap:(n:Int)<=(cap:Int):=ae
 have hgR:g<w.heap.size:=by
  rcases H.own.2 with⟨q,_⟩|⟨g',cap',cur,q,_,q3,_⟩
  .cases q
  .cases q;exact(a_.1 q3).1
 go_enter Tryz.func62,Tryz.ntmps62;clear H
 go_wp2_with fail
 generalize(w.alloc (.cells #[.int .i64 0,.int .i64 0,.int .i64 0,.int .i64 0,.slice none 0 0,.slice none 0 0,.slice none 0 0] 55)).alloc (.cells #[x1,x2,x3,x4,x5,x6,x7] 55)=w1 at*;clear H0 a0 p0 p1 p2 p3 p4 p5 p6 p7 s0 r0;have sy:=hS.one (f n).l;have rn:=xu (uN hS) H1.own (i:=n) ae;have rz:=xu (uN hS) H1.own (i:=0) ae;have H2:=H1.put hS (i:=0) ae hg (H1.sg n ae);have o1:=H1.own;obtain⟨y1,y2,y3,y4,y5,y6,y7,ey⟩:=eight (hS.len (f n).l);unfold GG at rn rz H2;rw[ey]at rn sy H2;rw[ex]at rz;obtain⟨q0,q1,q2,q3,q4,q5,q6,q7⟩:=Qm rn;obtain⟨p0,-⟩:=Qm rz;simp only[fF]at p0;obtain⟨u1,u2,u3,u4,u5,u6,u7⟩:=DX sy;obtain⟨⟨-,z0⟩,⟨⟨_,c1⟩,z1⟩,⟨⟨_,c2⟩,z2⟩,⟨⟨_,c3⟩,z3⟩,⟨⟨_,c4⟩,z4⟩,⟨⟨_,c5⟩,z5⟩,⟨⟨_,c6⟩,z6⟩,⟨_,c7⟩,z7⟩:=ZP o1 (o:=0) ae (.int .i64 ((yD (f n):Nat):Int)) y1 y2 y3 y4 y5 y6 y7
 have k2:∀b,b≠g->(w1.setCells g (0*8) (.int .i64 ((yD (f n):Nat):Int)::[y1,y2,y3,y4,y5,y6,y7])).heap[b]?=w1.heap[b]?:=λb hb=>by
  simp only[World.setCells]
  iterate 8 rw[bG _ _ _ _ hb]
 have k3:(w1.setCells g (0*8) (.int .i64 ((yD (f n):Nat):Int)::[y1,y2,y3,y4,y5,y6,y7])).heap.size=w.heap.size+2:=by simp only[World.setCells];simpa using s1
 have b2:=GH (o:=some g) rfl (.int .i64 ((yD (f n):Nat):Int)::[y1,y2,y3,y4,y5,y6,y7]) (0*8) w1 (Bt.refl _ _);simp only[World.setCells,fF,aS,Nat.reduceAdd]at c1 c2 c3 c4 c5 c6 c7 z0 z1 z2 z3 z4 z5 z6 z7 H2 k2 k3 b2;clear o1 rn rz sy;go_region;obtain⟨H2d,k2d,k3d,b2d⟩:=pack H2 k2 k3 b2;clear a1 p0 q0 q1 q2 q3 q4 q5 q6 q7 c1 c2 c3 c4 c5 c6 c7 z0 z1 z2 z3 z4 z5 z6 z7 H1 H2 k2 k3 b2 u1 u2 u3 u4 u5 u6 u7;generalize World.drew _=W3 at H2d b2d k2d k3d⊢;have g0:=H2d.var.cell (i:=0) ae;have g1:=H2d.var.frozen 0
 have H3:HI S B h n (JO n f) (.slice (some ⟨g,0,none⟩) n cap) (W3.setCell ⟨h,0,none⟩ (.slice (some ⟨g,0,none⟩) n cap)):=
  ⟨(H2d.var.set 0 (.slice (some ⟨g,0,none⟩) n cap)).congr λi hi=>oZ,dE (agb (uN hS) H2d.own) (a:=⟨h,0,none⟩) hlow _,hlow,λi hi=>H2d.sg i ae⟩
 have nF3:(W3.setCell ⟨h,0,none⟩ (.slice (some ⟨g,0,none⟩) n cap)).heap[w.heap.size+1]?=some (.cells #[x1,x2,x3,x4,x5,x6,x7] 55):=(bG _ _ _ _ (by show w.heap.size+1≠h;omega)).trans ((k2d _ ae).trans nF);have nR3:=(bG W3 ⟨h,0,none⟩ (.slice (some ⟨g,0,none⟩) n cap) w.heap.size (by show w.heap.size≠h;omega)).trans ((k2d _ ae).trans nR);have s3:(W3.setCell ⟨h,0,none⟩ (.slice (some ⟨g,0,none⟩) n cap)).heap.size=w.heap.size+2:=by simpa using k3d
 have k5:=Rw hS B h n 0 (JO n f) _ _ H3 ae (.inr rfl) (agd hp);rw[show((0:Nat):Int)=0 from rfl]at k5;have c7:=λ(W:World)(hR:W.heap[w.heap.size]?=some (.cells #[.int .i64 0,.int .i64 0,.int .i64 0,.int .i64 0,.slice none 0 0,.slice none 0 0,.slice none 0 0] 55))=>akk hR x1 x2 x3 x4 x5 x6 x7;clear H2d nF nR
 go_wp2_with(first|(go_at_call 104;(with_reducible refine k5.mono ?_);rintro r W5 ⟨rfl,f',H5,hR5,hp5,hb5⟩;have nF5:=(hb5.block (w.heap.size+1) ae oM).trans nF3;have nR5:=(hb5.block w.heap.size ae oM).trans nR3;obtain⟨⟨e0,d0⟩,⟨e1,d1⟩,⟨e2,d2⟩,⟨e3,d3⟩,⟨e4,d4⟩,⟨e5,d5⟩,⟨e6,d6⟩,hfin⟩:=c7 W5 nR5;have m0:=cell_of W5 nF5 0;have m1:=cell_of W5 nF5 1;have m2:=cell_of W5 nF5 2;have m3:=cell_of W5 nF5 3;have m4:=cell_of W5 nF5 4;have m5:=cell_of W5 nF5 5;have m6:=cell_of W5 nF5 6;simp at m0 m1 m2 m3 m4 m5 m6;clear c7))
 have hs5:=hb5.size;have b6:=GH (o:=some w.heap.size) rfl [x1,x2,x3,x4,x5,x6,x7] 0 W5 (Bt.refl _ _);have H6:HI S B h n f' (.slice (some ⟨g,0,none⟩) n cap) (W5.setCells w.heap.size 0 [x1,x2,x3,x4,x5,x6,x7]):=⟨Md ae _ _ _ H5.var,Fe oM _ _ _ H5.own,H5.low,H5.sg⟩
 have hblk:∀b,b<w.heap.size->b≠h->b≠g->(W5.setCells w.heap.size 0 [x1,x2,x3,x4,x5,x6,x7]).heap[b]?=w.heap[b]?:=λb hb h1 h2=>by rw[b6.block b ae az,hb5.block b ae oM,bG _ _ _ _ h1,k2d b h2,b1.block b hb]
 have hbel:Below h w (W5.setCells w.heap.size 0 [x1,x2,x3,x4,x5,x6,x7]):=⟨b6.os.trans (hb5.os.trans (b2d.os.trans b1.os)),b6.tape.trans (hb5.tape.trans (b2d.tape.trans b1.tape)),b6.output.trans (hb5.output.trans (b2d.output.trans b1.output)),by have:=b6.size;omega,λb hb=>hblk b ae ae ae⟩;have hs6:B<=(W5.setCells w.heap.size 0 [x1,x2,x3,x4,x5,x6,x7]).heap.size:=by have:=b6.size;omega
 simp only[World.setCells,aS,Nat.reduceAdd]at hblk H6 hbel hs6;refine fU (mY (p:=2) rfl _ _ w.heap.size 55 _ (0,0) _ ax hfin Tryz.underlying55 rfl ag) rfl ?_;exact⟨by rw[ex],f',_,H6,hR5,hp5,hbel,hs6,λb hb h1 h2=>hblk b hb h1 (λe=>h2 pq)⟩
end
theorem Tryz.Lp:(Tryz.prog.info? 55).map (λi=>(i.zero,i.size,i.bytes))=some (some (.agg #[.int .i64 0,.int .i64 0,.int .i64 0,.int .i64 0,.slice none 0 0,.slice none 0 0,.slice none 0 0]),7,104):=ag
def SC(w:World)(bo:Option Addr)(n:Nat)(S:Nat->List Value):Prop:=0<n->∃b o,bo=some ⟨b,o,none⟩/\b<w.heap.size/\∀i,i<n->w.rangeAt b (o+i*7) (S i)
theorem SC.below{w w':World}{bo:Option Addr}{n B:Nat}{S:Nat->List Value}(h:SC w bo n S)(hb:Below B w w')(hB:w.heap.size<=B):SC w' bo n S:=λhn=>by obtain⟨b,o,h1,h2,h3⟩:=h hn;exact⟨b,o,h1,aN h2 hb.size,λi hi j v hv=>(hb.cell (p:=⟨b,_,none⟩) (aN h2 hB)).trans (h3 i hi j v hv)⟩
def Sr(ix:Nat->Nat)(i:Nat):qQ:=⟨[UInt8.ofNat (ix i)],none,i,0⟩
theorem Yh{ix:Nat->Nat}{i:Nat}(h:ix i<256):yD (Sr ix i)=ix i:=by show(UInt8.ofNat (ix i)).toNat=ix i;simp[bu h]
theorem LJ{w:World}{g o:Nat}{b c d e x y z:Value}(h:w.rangeAt g o [b,c,d,e,x,y,z]):w.cell? ⟨g,o,none⟩=some b/\w.cell? ⟨g,o+1,none⟩=some c/\w.cell? ⟨g,o+2,none⟩=some d/\w.cell? ⟨g,o+3,none⟩=some e/\w.cell? ⟨g,o+4,none⟩=some x/\w.cell? ⟨g,o+5,none⟩=some y/\w.cell? ⟨g,o+6,none⟩=some z:=
 ⟨h 0 _ rfl,h 1 _ rfl,h 2 _ rfl,h 3 _ rfl,h 4 _ rfl,h 5 _ rfl,h 6 _ rfl⟩
section
variable {S:Nat->List Value}
theorem ac4{h i m k:Nat}{f out fh f2:Nat->qQ}{v v2 vs v':Value}{w wq W2 wa w5:World}(hk:i-m=k+1)(hp:Hp fh (k+1))(hR:qK i f (λx=>if x<m then out x else fh (x-m)))
  (hsrt:∀x,x+1<m->Hp.le (out x).k (out (x+1)).k) (hle:∀x,x<k+1->0<m->Hp.le (out (m-1)).k (fh x).k) (H:HI S (h+1) h (k+1) fh v wq) (o0:wq.ownsRow (h+1) 55 7 vs m (xX (λe=>S e.l) m out)) (b0:Below h w wq)
  (hR2:qK k (JO k fh) f2) (hp2:Hp f2 k) (H2:HI S (h+1) h k f2 v2 W2) (hb2:Below h wq W2) (s2:h+1<=W2.heap.size) (hfr:∀b,b<wq.heap.size->b≠h->some b≠v.ownBlock->W2.heap[b]?=wq.heap[b]?)
  (ha:Below W2.heap.size W2 wa) (hg:wa.grownBy w5 vs.ownBlock) (ho:w5.ownsRow (h+1) 55 7 v' (m+1) (xX (λe=>S e.l) m out++S (fh 0).l)):
  m+1<=i/\HI S (h+1) h (i-(m+1)) f2 v2 w5/\Hp f2 (i-(m+1))/\qK i f (λx=>if x<m+1 then(λx=>if x=m then fh 0 else out x) x else f2 (x-(m+1)))/\(∀x,x+1<m+1->Hp.le ((λx=>if x=m then fh 0 else out x) x).k ((λx=>if x=m then fh 0 else out x) (x+1)).k)/\(∀x,x<i-(m+1)->0<m+1->Hp.le ((λx=>if x=m then fh 0 else out x) (m+1-1)).k (f2 x).k)/\w5.ownsRow (h+1) 55 7 v' (m+1) (xX (λe=>S e.l) (m+1) (λx=>if x=m then fh 0 else out x))/\Below h w w5/\h+1<=w5.heap.size:=by
 have ek:i-(m+1)=k:=ae;have hsa:=ha.size;have hsq:=hb2.size;have hR':=hR.trans ((qK.popped (k:=k) (o:=out) (g:=fh) (show m+(k+1)=i by omega)));have o4:W2.ownsRow (h+1) 55 7 vs m (xX (λe=>S e.l) m out):=rX o0 λg hg'=>hfr g (o0.lt g hg').2 (λe=>by have:=(o0.lt g hg').1;omega) (λe=>CJ o0 H.own au hg' e.symm)
 have kb:∀b,b<W2.heap.size->some b≠vs.ownBlock->w5.heap[b]?=W2.heap[b]?:=λb hb hne=>(hg.block b ae hne).trans (ha.block b hb)
 have hbw:Below (h+1) W2 w5:=((ha.mono s2).grown hg ae (λx hx=>(o4.lt x hx).1));have hs5:=hbw.size;rw[ek];refine⟨ae,⟨H2.var.of_block (kb h ae (λe=>ap6)),rX H2.own λg hg'=>kb g (H2.own.lt g hg').2 (λe=>CJ H2.own o4 au hg' e.symm),H2.low,H2.sg⟩,hp2,?_,?_,?_,?_,(b0.trans hb2).trans (hbw.mono ae),ae⟩
 .exact arM
 .intro x hx;dsimp only;rw[ah (show¬x=m by omega)];by_cases e:x+1=m
  .rw[aj e];have:=hle 0 ae ae;rw[show m-1=x by omega]at this;exact this
  .rw[ah e];exact hsrt x ae
 .intro x hx _;dsimp only;rw[f_,aj rfl];obtain⟨j,hj,ej⟩:=hR2.from hx;rw[ej];unfold JO;split
  .exact UX hp k ae
  .exact UX hp j ae
 .rw[yC,aj rfl,NL (g:=out) λj hj=>fM];exact ho
theorem Yk(n:Nat)(hn:n<=1048576)(w:World):(Instr.makeSlice 52 (.int .i64 0) (.int .i64 (n:Int))).run Tryz.prog w=.ok (.slice (some ⟨w.heap.size,0,none⟩) 0 n) (w.alloc (.cells (madeCells #[.int .i64 0,.int .i64 0,.int .i64 0,.int .i64 0,.slice none 0 0,.slice none 0 0,.slice none 0 0] (n*7)) 55)):=by obtain⟨i0,hi0,hz0,hz1,hz2⟩:=bg Tryz.Lp;have:=iZ (P:=Tryz.prog) w 52 55 i0 _ Tryz.underlying52 hi0 hz0 .i64 .i64 0 n ae ae fO ae;exact aqo
theorem ac5(w:World)(n B:Nat)(hB:B<=w.heap.size)(hn:n<=1048576):(w.alloc (.cells (madeCells #[.int .i64 0,.int .i64 0,.int .i64 0,.int .i64 0,.slice none 0 0,.slice none 0 0,.slice none 0 0] (n*7)) 55)).ownsRow B 55 7 (.slice (some ⟨w.heap.size,0,none⟩) 0 n) 0 []:=
 ⟨rfl,.inr ⟨w.heap.size,n,madeCells #[.int .i64 0,.int .i64 0,.int .i64 0,.int .i64 0,.slice none 0 0,.slice none 0 0,.slice none 0 0] (n*7),rfl,hB,dM _ _,ae,bH,gK _ _,rfl⟩⟩
def ByI(S:Nat->List Value)(ix:Nat->Nat)(n:Nat)(w:World)(r:Ending)(w':World):Prop:=
 Below w.heap.size w w'/\∃out v,r=.returned v/\qK n (Sr ix) out/\(∀i,i+1<n->Hp.le (out i).k (out (i+1)).k)/\w'.ownsRow w.heap.size 55 7 v n (xX (λe=>S e.l) n out)
theorem Yi(hS:Oq S)(ix:Nat->Nat)(n cap:Nat)(bo:Option Addr)(w:World)(hn:n<=1048576)(hB:SC w bo n S)(hx:∀i,i<n->ix i<256/\(S i)[2]?=some (.int .i64 ((ix i:Nat):Int))):
  Calls Tryz.prog 35 #[.slice bo n cap] w λr w'=>ByI S ix n w r w':=by
 obtain⟨i0,hi0,hz0,hz1,hz2⟩:=bg Tryz.Lp
 have v0:(w.alloc (.cells #[.slice none 0 0] 132)).rowIs w.heap.size 132 1 (λ_=>.slice none 0 0):=
  World.rowIs_alloc w #[.slice none 0 0] 132 (λ_=>.slice none 0 0) (λi hi=>by obtain rfl:i=0:=iF;rfl)
 have b0:Below w.heap.size w (w.alloc (.cells #[.slice none 0 0] 132)):=(aA _ _).alloc (ak _) _;have s0:(w.alloc (.cells #[.slice none 0 0] 132)).heap.size=w.heap.size+1:=ai;have H0:HI S (w.heap.size+1) w.heap.size 0 (Sr ix) (.slice none 0 0) (w.alloc (.cells #[.slice none 0 0] 132)):=⟨v0,bT _ _ _ _,ae,λi hi=>absurd hi ae⟩;go_enter Tryz.func35,Tryz.ntmps35;go_wp2;generalize w.alloc (.cells #[.slice none 0 0] 132)=w0 at*;generalize hh:w.heap.size=h at*
 go_loopw [5,9] (λ_ vi wr=>∃(i:Nat)(f':Nat->qQ)(v:Value),i<=n/\vi=.int .i64 ((i:Nat):Int)/\HI S (h+1) h i f' v wr/\qK i (Sr ix) f'/\Hp f' i/\Below h w wr/\h+1<=wr.heap.size) (λ_ vi _=>n-(intOf vi).toNat)
 case atStart=>exact⟨0,_,_,ae,rfl,H0,qK.refl _ _,λc _ hc=>absurd hc ae,b0,ae⟩
 case round=>
  clear v0 b0 s0 H0;obtain⟨i,f',v,hi,rfl,H,hR,hp,hb,hs⟩:=hrel;by_cases hlt:i<n
  .have hlt':(i:Int)<(n:Int):=ae;obtain⟨b,o,rfl,hbl,hcell⟩:=hB.below hb ae ae;have ri:=hcell i hlt;obtain⟨hxi,h2⟩:=hx i hlt;have sx:=hS.one i;have kp:=λw1 H1 s1=>ac3 hS (h+1) h i f' v (Sr ix i) w1 ⟨_,rfl⟩ H1 s1 ae hp
   rw[show(Sr ix i).l=i from rfl,Yh hxi]at kp;obtain⟨x1,x2,x3,x4,x5,x6,x7,ex⟩:=eight (hS.len i);rw[ex]at ri h2 sx kp;simp only[iM,iL,fV]at h2;subst h2;obtain⟨p0,p1,p2,p3,p4,p5,p6⟩:=LJ ri;obtain⟨t1,t2,-,t4,t5,t6,t7⟩:=DX sx;have cn:=Bo wr [x1,x2,.int .i64 ((ix i:Nat):Int),x4,x5,x6,x7] 55;have c0:=cn 0;have c1:=cn 1;have c2:=cn 2;have c3:=cn 3;have c4:=cn 4;have c5:=cn 5;have c6:=cn 6;simp only[iL,iM]at c0 c1 c2 c3 c4 c5 c6;have H1:HI S (h+1) h i f' v (wr.alloc (.cells #[x1,x2,.int .i64 ((ix i:Nat):Int),x4,x5,x6,x7] 55)):=⟨H.var.alloc _,H.own.alloc _,H.low,H.sg⟩;have b1:=hb.alloc ae (.cells #[x1,x2,.int .i64 ((ix i:Nat):Int),x4,x5,x6,x7] 55);have s1:h+1<=(wr.alloc (.cells #[x1,x2,.int .i64 ((ix i:Nat):Int),x4,x5,x6,x7] 55)).heap.size:=az;have kp':=kp _ H1 s1;have hR2:qK (i+1) (Sr ix) (λx=>if x=i then Sr ix i else f' x):=hR.snoc (λ_ _=>rfl) (λx hx=>fM) (by rw[aj rfl]);clear H1 H hb cn kp hcell ri sx;generalize hw1:wr.alloc (.cells #[x1,x2,.int .i64 ((ix i:Nat):Int),x4,x5,x6,x7] 55)=w1 at*
   go_wp2_with(first
    |(go_at_call 60;(with_reducible refine kp'.mono ?_);rintro r w2 ⟨rfl,f2,v2,H2,VU,hp2,hb2,hs2⟩))
   go_roundw
   case rel=>exact⟨i+1,f2,v2,ae,aV,H2,hR2.trans VU,hp2,b1.trans hb2,hs2⟩
   case measure=>simp[intOf];omega
  .obtain rfl:i=n:=ae;have hnl:¬((i:Int)<(i:Int)):=ae;have mk:=Yk i hn wr;have Ar:=ac5 wr i (h+1) hs hn;generalize madeCells #[.int .i64 0,.int .i64 0,.int .i64 0,.int .i64 0,.slice none 0 0,.slice none 0 0,.slice none 0 0] (i*7)=Z at*;have H1:HI S (h+1) h i f' v (wr.alloc (.cells Z 55)):=⟨H.var.alloc _,H.own.alloc _,H.low,H.sg⟩;have b1:=hb.alloc ae (.cells Z 55);have s1:h+1<=(wr.alloc (.cells Z 55)).heap.size:=az;clear H hb hs;go_wp2;generalize wr.alloc (.cells Z 55)=w1 at*
   go_loopw [6] (λvs wq=>∃(m:Nat)(out fh:Nat->qQ)(v:Value),m<=i/\HI S (h+1) h (i-m) fh v wq/\Hp fh (i-m)/\qK i (Sr ix) (λx=>if x<m then out x else fh (x-m))/\(∀x,x+1<m->Hp.le (out x).k (out (x+1)).k)/\(∀x,x<i-m->0<m->Hp.le (out (m-1)).k (fh x).k)/\wq.ownsRow (h+1) 55 7 vs m (xX (λe=>S e.l) m out)/\Below h w wq/\h+1<=wq.heap.size) (λvs _=>match vs with| .slice _ m _=>i-m|_=>0)
   case atStart=>exact⟨0,f',f',v,ae,H1,hp,hR.congr λx _=>apv,λx hx=>absurd hx ae,λx _ h0=>absurd h0 ae,Ar,b1,s1⟩
   case round=>
    clear H1 Ar b1 s1 mk hp hR;obtain⟨m,out,fh,v,hm,H,hp,hR,hsrt,hle,hown,hb,hs⟩:=hrel;have kl:=aga H
    obtain⟨bs,cs,rfl⟩:∃bs cs,u6=.slice bs m cs:=by exact arT
    by_cases hmn:m<i
    .obtain⟨k,hk'⟩:∃k,i-m=k+1:=⟨i-m-1,ae⟩;rw[hk']at H hp kl hle;have hgt:(0:Int)<(k:Int)+1:=ae;have kp:=agc hS (h+1) h k fh v _ H hs ae hp;unfold alT at kp;have sy:=hS.one (fh 0).l;have nx:=λ{W2 wa w5 f2 v2 v'}=>ac4 (W2:=W2) (wa:=wa) (w5:=w5) (f2:=f2) (v2:=v2) (v':=v') hk' hp hR hsrt hle H hown hb;obtain⟨y1,y2,y3,y4,y5,y6,y7,ey⟩:=eight (hS.len (fh 0).l);rw[ey]at kp sy nx
     go_wp2_with(first
      |(go_at_call 61;(with_reducible refine kl.mono ?_);rintro r w' ⟨rfl,hw'⟩;obtain rfl:=hw'.symm)
      |(go_at_call 62;(with_reducible refine kp.mono ?_);rintro r w2 ⟨rfl,f2,v2,H2,hR2,hp2,hb2,hs2,hfr⟩;have o2:=rX hown λg hg'=>hfr g (hown.lt g hg').2 (λe=>by have:=(hown.lt g hg').1;omega) (λe=>CJ hown H.own au hg' e.symm))
      |(at_builtin;refine dF _ rfl _ _ 52 rfl (h+1) 55 i0 (.agg #[.int .i64 0,.int .i64 0,.int .i64 0,.int .i64 0,.slice none 0 0,.slice none 0 0,.slice none 0 0]) 7 104 Tryz.underlying52 hi0 hz0 hz1 hz2 rfl au _ _ _ rfl (o2.alloc _) ⟨w2.heap.size,0,none⟩ 1 1 [y1,y2,y3,y4,y5,y6,y7] rfl rfl (D_ _ _ _) sy bH ae az ?_;intro v' w5 hown5 hgrow _;obtain⟨gq,cq,rfl,_,_⟩:=hown5.form ae))
     go_roundw
     case rel=>exact⟨m+1,λx=>if x=m then fh 0 else out x,f2,v2,nx hR2 hp2 H2 hb2 hs2 hfr ((aA _ _).alloc (ak _) _) hgrow hown5⟩
     case measure=>simp;omega
    .obtain rfl:m=i:=ae;rw[jY]at kl;rw[show((0:Nat):Int)=0 from rfl]at kl;have hfin:qK m (Sr ix) out:=hR.congr λx hx=>by rw[aj hx]
     clear hp hle hR H
     go_wp2_with(first|(go_at_call 61;(with_reducible refine kl.mono ?_);rintro r w' ⟨rfl,hw'⟩;obtain rfl:=hw'.symm))
     go_ret;exact⟨aoC,out,_,rfl,hfin,hsrt,apw⟩
end
end Go.Proofs.Y
namespace Go.Proofs.Y
open Go.RowKit Go.Deep
def amG(w:World)(v:Value)(xs:List Value):Prop:=
 (v=.slice none 0 0/\xs=[])\/∃g off cap,v=.slice (some ⟨g,off,none⟩) xs.length cap/\∀j u,xs[j]?=some u->w.cell? ⟨g,off+j,none⟩=some u
def yh(l:List Nat):List Value:=l.map λ(z:Nat)=>Value.int .i64 (z:Int)
theorem OQ{l:List Nat}{j:Nat}(h:j<l.length):(yh l)[j]?=some (.int .i64 ((l.getD j 0:Nat):Int)):=by simp[yh,aY h]
theorem CS(l:List Nat):(yh l).length=l.length:=by simp[yh]
def Ai(l:List Nat):Nat:=if l.sum<=65536 then l.sum else 65537
def lengthS(k:Nat)(l:List Nat):Nat:=(Ai l+k-1)/k
theorem Ur{α:Type}{a b:List α}(hl:a.length=b.length)(h:∀t,t<a.length->a[t]?=b[t]?):a=b:=by
 apply jg;intro i;by_cases hi:i<a.length
 .exact h i hi
 .rw[gZ ae,gZ ae]
theorem Lies.len{w:World}{v:Value}{xs:List Value}(h:Lies w v xs):∃ba cap,v=.slice ba xs.length cap:=by obtain⟨ba,cap,e,_⟩:=h;exact⟨ba,cap,e⟩
theorem Lies.get{w:World}{ba:Option Addr}{cap n:Nat}{xs:List Value}(h:Lies w (.slice ba n cap) xs){j:Nat}{u:Value}(hj:xs[j]?=some u):∃b off,ba=some ⟨b,off,none⟩/\w.cell? ⟨b,off+j,none⟩=some u:=by obtain⟨ba',cap',e,_,h3⟩:=h;cases e;exact h3 j u hj
theorem OU{w w':World}(h:∃m,w'=w.drewN m):∃m,w'.drew=w.drewN m:=by obtain⟨m,rfl⟩:=h;exact⟨m+1,rfl⟩
theorem acS(a b:List (List UInt8))(va vb:Value)(w:World)(ha:Lies w va (uV a))(hb:Lies w vb (uV b))(hl:a.length<=1048576):
  Calls Tryz.prog 105 #[va,vb] w λr w'=>r=.returned (.bool (decide (a=b)))/\∃m,w'=w.drewN m:=by
 obtain⟨pa,ca,rfl⟩:=ha.len;obtain⟨pb,cb,rfl⟩:=hb.len;rw[uK]at ha hb⊢;rw[uK];by_cases hn:a.length=b.length
 .have h1:((a.length:Int)==(b.length:Int))=true:=az;go_enter Tryz.func105,Tryz.ntmps105;go_wp2
  go_loopw [5,13] (λ_ vi wr=>∃j:Nat,j<=a.length/\vi=.int .i64 (j:Int)/\(∃m,wr=w.drewN m)/\∀t,t<j->a[t]?=b[t]?) (λ_ vi _=>a.length-(intOf vi).toNat)
  case atStart=>exact⟨0,ae,rfl,⟨0,rfl⟩,λt ht=>absurd ht ae⟩
  case round=>
   obtain⟨j,hj,rfl,hw,hsame⟩:=hrel;by_cases hlt:j<a.length
   .have hlt':(j:Int)<(a.length:Int):=ae;have hlt2:(j:Int)<(b.length:Int):=ae;obtain⟨ga,oa,rfl,c1⟩:=ha.get (DR hlt);obtain⟨gb,ob,rfl,c2⟩:=hb.get (DR (l:=b) (j:=j) ae);replace c1:wr.cell? ⟨ga,oa+j,none⟩=some (.string ⟨(a.getD j []).toArray⟩):=by obtain⟨m,rfl⟩:=hw;exact c1
    replace c2:wr.cell? ⟨gb,ob+j,none⟩=some (.string ⟨(b.getD j []).toArray⟩):=by obtain⟨m,rfl⟩:=hw;exact c2
    by_cases e:a.getD j []=b.getD j []
    .have hs:∀t,t<j+1->a[t]?=b[t]?:=λt ht=>by
      by_cases et:t=j
      .exact arz
      .exact hsame t ae
     rw[e]at c1;clear hb ha
     go_wp2_with fail
     go_region;go_wp2
     go_roundw
     case rel=>exact⟨j+1,ae,aV,OU hw,hs⟩
     case measure=>simp[intOf];omega
    .have hne:(a.getD j []==b.getD j [])=false:=mZ.2 e;have hd:decide (a=b)=false:=dO λh=>e iY
     clear hb ha;generalize a.getD j []=x at*;generalize b.getD j []=y at*
     go_wp2_with fail
     go_region;go_wp2;go_ret;exact⟨o_,OU hw⟩
   .exact ark
 .have h1:((a.length:Int)==(b.length:Int))=false:=az;have hd:decide (a=b)=false:=dO λh=>hn iY
  go_enter Tryz.func105,Tryz.ntmps105;go_wp2;go_ret;exact⟨o_,0,rfl⟩
theorem acT(a b:List Nat)(va vb:Value)(w:World)(ha:Lies w va (yh a))(hb:Lies w vb (yh b))(hl:a.length<=1048576):
  Calls Tryz.prog 106 #[va,vb] w λr w'=>r=.returned (.bool (decide (a=b)))/\∃m,w'=w.drewN m:=by
 obtain⟨pa,ca,rfl⟩:=ha.len;obtain⟨pb,cb,rfl⟩:=hb.len;rw[CS]at ha hb⊢;rw[CS];by_cases hn:a.length=b.length
 .have h1:((a.length:Int)==(b.length:Int))=true:=az;go_enter Tryz.func106,Tryz.ntmps106;go_wp2
  go_loopw [5,13] (λ_ vi wr=>∃j:Nat,j<=a.length/\vi=.int .i64 (j:Int)/\(∃m,wr=w.drewN m)/\∀t,t<j->a[t]?=b[t]?) (λ_ vi _=>a.length-(intOf vi).toNat)
  case atStart=>exact⟨0,ae,rfl,⟨0,rfl⟩,λt ht=>absurd ht ae⟩
  case round=>
   obtain⟨j,hj,rfl,hw,hsame⟩:=hrel;by_cases hlt:j<a.length
   .have hlt':(j:Int)<(a.length:Int):=ae;have hlt2:(j:Int)<(b.length:Int):=ae;obtain⟨ga,oa,rfl,c1⟩:=ha.get (OQ hlt);obtain⟨gb,ob,rfl,c2⟩:=hb.get (OQ (l:=b) (j:=j) ae);replace c1:wr.cell? ⟨ga,oa+j,none⟩=some (.int .i64 ((a.getD j 0:Nat):Int)):=by obtain⟨m,rfl⟩:=hw;exact c1
    replace c2:wr.cell? ⟨gb,ob+j,none⟩=some (.int .i64 ((b.getD j 0:Nat):Int)):=by obtain⟨m,rfl⟩:=hw;exact c2
    by_cases e:a.getD j 0=b.getD j 0
    .have hs:∀t,t<j+1->a[t]?=b[t]?:=λt ht=>by
      by_cases et:t=j
      .exact arz
      .exact hsame t ae
     rw[e]at c1;clear hb ha
     go_wp2_with fail
     go_region;go_wp2
     go_roundw
     case rel=>exact⟨j+1,ae,aV,OU hw,hs⟩
     case measure=>simp[intOf];omega
    .have hne:(((a.getD j 0:Nat):Int)==((b.getD j 0:Nat):Int))=false:=mZ.2 λx=>e ae
     have hd:decide (a=b)=false:=dO λh=>e iY
     clear hb ha;generalize a.getD j 0=x at*;generalize b.getD j 0=y at*
     go_wp2_with fail
     go_region;go_wp2;go_ret;exact⟨o_,OU hw⟩
   .exact ark
 .have h1:((a.length:Int)==(b.length:Int))=false:=az;have hd:decide (a=b)=false:=dO λh=>hn iY
  go_enter Tryz.func106,Tryz.ntmps106;go_wp2;go_ret;exact⟨o_,0,rfl⟩
def eR:Option (Nat×Nat)->Nat
 |none=>0
 |some x=>x.1
def Ld(r s:Option (Nat×Nat)):Option (Nat×Nat):=match r with|none=>s|some x=>some x
def Errs(r:Option (Nat×Nat)):Prop:=∀x,r=some x->x.1≠0
theorem DD:Errs none:=λ_ h=>dZ
theorem BA{x y:Nat}(h:x≠0):Errs (some (x,y)):=λ_ e=>by cases e;exact h
theorem Errs.or{r s:Option (Nat×Nat)}(h:Errs r)(h':Errs s):Errs (Ld r s):=by
 cases r with
 |none=>exact h'
 |some x=>exact h
theorem Ll(l:List UInt8):∀(ws:List UInt8)(a:Nat),Errs (Ah l a ws)
 |[],_=>DD
 |c::ws,a=>by
  unfold Ah;split
  .exact BA au
  .split
   .exact Ll l ws (a+1)
   .exact BA au
theorem IV(l:List UInt8)(a n:Nat):Errs (yH l a n):=by
 unfold yH;split
 .exact BA au
 .split
  .exact DD
  .exact BA au
def xK(ok:Bool)(x y:Nat):Option (Nat×Nat):=if ok then none else some (x,y)
theorem vI{ok:Bool}{x y:Nat}(h:x≠0):Errs (xK ok x y):=by
 unfold xK;split
 .exact DD
 .exact BA h
section
variable {sb:Nat}{v:Value}{at_:Nat}{r:Option (Nat×Nat)}{w:World}
end
section
variable {sb bb bo cap:Nat}{l:List UInt8}{at_:Nat}{r:Option (Nat×Nat)}{w:World}
end
def zu:List UInt8:=[67,65,73,82,78,49]
def O3(r:Option (Nat×Nat))(k n i z c m ln zz:Nat):Option (Nat×Nat):=
 Ld (Ld (Ld (Ld (Ld (Ld (Ld (Ld r (xK (decide (1<=k/\k<=128)) 1 6)) (xK (decide (k<=n/\n<=128)) 1 7)) (xK (decide (i<n)) 1 8)) (xK (decide (z=0)) 1 9)) (xK (decide (1<=c/\c<=65536)) 1 10)) (xK (decide (4<=m/\m<=300000)) 1 14)) (xK (decide (ln<=65536)) 1 18)) (xK (decide (zz=0)) 1 22)
def xB(k n i c:Nat)(a b d:Value):List Value:=[.int .i64 (k:Int),.int .i64 (n:Int),.int .i64 (i:Int),.int .i64 (c:Int),a,b,d]
