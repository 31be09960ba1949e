import Derived.Test.YtnbflnamlpodcaaGreatDoorHqB
import Derived.Deep.CutRange
set_option maxHeartbeats 8000000
set_option maxRecDepth 100000
namespace Go.Proofs.Y
open Go.Proofs.Tryz
open Go.RowKit Go.Deep Go.Hp
theorem D7(w:World)(l:List Value)(t:TypeId)(j:Nat):(w.alloc (.cells l.toArray t)).cell? ⟨w.heap.size,j,none⟩=l[j]?:=by simp only[World.cell?,dO];simp
theorem Ee(w:World)(l:List Value)(t:TypeId):∀j u,l[j]?=some u->(w.alloc (.cells l.toArray t)).cell? ((⟨w.heap.size,0,none⟩:Addr).add j)=some u:=λj u h=>by rw[Addr.add_mid,aT,D7];exact h
theorem Tryz.aj3:(prog.info? 184).map (λi=>(i.zero,i.size,i.bytes))=some (some (.agg #[.int .i64 0,.int .i64 0,.int .i64 0,.int .i64 0,.int .i64 0,.slice none 0 0,.slice none 0 0,.slice none 0 0]),8,112):=ag
section
variable {S:Nat->List Value}{B h n:Nat}{f:Nat->qY}{v:Value}{w:World}
theorem aj6(H:HI S B h n f v w):Calls prog 61 #[.pointer (some ⟨h,0,none⟩)] w λr w'=>r=.returned (.int .i64 ((n:Nat):Int))/\w'=w:=by have a0:=H.var.cell (i:=0) ae;obtain⟨bo,cap,rfl⟩:=H.slice;clear H;go_enter func61,ntmps61;exact awx
theorem HI.push{v':Value}{e:qY}{wa w1:World}(he:∃b,e.k=[b])(H:HI S B h n f v w)(hB:B<=w.heap.size)(ha:Below w.heap.size w wa)(hg:wa.grownBy w1 v.ownBlock)(ho:w1.ownsRow B 184 8 v' (n+1) (zt (Jz S) n f++Jz S e)):
  HI S B h (n+1) (λx=>if x=n then e else f x) v' (w1.setCell ⟨h,0,none⟩ v')/\w1.cell? ⟨h,0,none⟩=some v/\w1.frozen? ⟨h,0,none⟩=false/\Below h w (w1.setCell ⟨h,0,none⟩ v')/\B<=(w1.setCell ⟨h,0,none⟩ v').heap.size:=by
 have uy:=H.low;have hsa:=ha.size;have k:w1.heap[h]?=w.heap[h]?:=(hg.block h ae (λe'=>awt)).trans (ha.block h ae);have r:=H.var.of_block k;have Iu:Below B w w1:=((ha.mono hB).grown hg ae (λx hx=>(H.own.lt x hx).1));have x9:=Iu.size;refine⟨⟨(r.set 0 v').congr λi hi=>pG,?_,uy,λx hx=>?_⟩,r.cell (i:=0) ae,r.frozen 0,?_,az⟩
 .rw[zO,aj rfl,Q7 (g:=f) λi hi=>fV];exact dF ho (a:=⟨h,0,none⟩) uy v'
 .split
  .exact he
  .exact H.sg x ae
 .exact ax_
theorem agZ(hS:Sr S)(B h n:Nat)(f:Nat->qY)(v:Value)(e:qY)(w:World)(he:∃b,e.k=[b])(H:HI S B h n f v w)(hB:B<=w.heap.size)(hn:n<=1048576)(hp:Hp f n):
  Calls prog 60 #[.pointer (some ⟨h,0,none⟩),.int .i64 ((zQ e:Nat):Int),.agg (S e.l).toArray] w λr w'=>r=.returned (.tuple #[])/\∃f' v',HI S B h (n+1) f' v' w'/\qN (n+1) (λx=>if x=n then e else f x) f'/\Hp f' (n+1)/\Below h w w'/\B<=w'.heap.size:=by
 obtain⟨i0,Af,x_,w_,wH⟩:=bG Tryz.aj3;have uy:=H.low;have hex:∀{w0 wa w1:World}{v':Value},HI S B h n f v w0->_:=λ{w0 wa w1 v'} H0 NF=>HI.push (wa:=wa) (w1:=w1) (v':=v') he H0 NF;have h1c:=ajx hS e;have hcn:=λw t=>Ee w (Jz S e) t
 unfold Jz at hcn h1c;have cn:=λw t=>D7 w (S e.l) t
 have GH:=wF hS e;obtain⟨x1,x2,x3,x4,x5,x6,x7,ex⟩:=eight (hS.len e.l);unfold Jz at GH;have e7:Jz S e=[.int .i64 ((zQ e:Nat):Int),x1,x2,x3,x4,x5,x6,x7]:=by rw[Jz,ex]
 rw[e7]at hex;rw[ex]at hcn h1c cn GH⊢;have b0:Below h w (w.alloc (.cells #[x1,x2,x3,x4,x5,x6,x7] 55)):=(aA _ _).alloc ae _;have H0:HI S B h n f v (w.alloc (.cells #[x1,x2,x3,x4,x5,x6,x7] 55)):=⟨H.var.alloc _,H.own.alloc _,H.low,H.sg⟩;have NF:B<=(w.alloc (.cells #[x1,x2,x3,x4,x5,x6,x7] 55)).heap.size:=az;have c0:=cn w 55 0;have c1:=cn w 55 1;have c2:=cn w 55 2;have c3:=cn w 55 3;have c4:=cn w 55 4;have c5:=cn w 55 5;have c6:=cn w 55 6;simp only[iU,iV]at c0 c1 c2 c3 c4 c5 c6;obtain⟨bo,cap,rfl⟩:=H.slice;clear H hB cn;go_enter func60,ntmps60
 go_wp2_with fail
 have a0:=H0.var.cell (i:=0) ae;have a0':=(H0.var.alloc (.cells #[.int .i64 ((zQ e:Nat):Int),x1,x2,x3,x4,x5,x6,x7] 184)).cell (i:=0) ae;generalize L9:w.alloc (.cells #[x1,x2,x3,x4,x5,x6,x7] 55)=w0 at*;clear L9
 go_region_law ((refine Q5 rfl _ _ 130 rfl B 184 i0 (.agg #[.int .i64 0,.int .i64 0,.int .i64 0,.int .i64 0,.int .i64 0,.slice none 0 0,.slice none 0 0,.slice none 0 0]) 8 112 underlying130 Af x_ w_ wH rfl au _ _ _ rfl ((H0.own.alloc _).drew) ⟨w0.heap.size,0,none⟩ 1 1 [.int .i64 ((zQ e:Nat):Int),x1,x2,x3,x4,x5,x6,x7] rfl rfl (hcn _ _) h1c bH ae az ?_;intro v' w1 Ad tq hwh;obtain⟨gq,cq,rfl,_,_⟩:=Ad.form ae;obtain⟨H2,d1,d2,sZ,Ae⟩:=hex H0 NF (((aA w0.heap.size w0).alloc (ak _) _).drew) tq Ad))
 all_goals
  have k3:=abr hS B h (n+1) n _ _ _ H2 ae (abn hp);have g0:=H2.var.cell (i:=0) ae;have Iu:=b0.trans sZ;clear H0 H2 a0 a0' c0 c1 c2 c3 c4 c5 c6 d1 d2 b0 sZ tq hwh hex;generalize w1.setCell ⟨h,0,none⟩ (.slice (some ⟨gq,0,none⟩) (n+1) cq)=w2 at*
  go_wp2_with(first|(go_at_call 103;(with_reducible refine k3.mono ?_);rintro r w3 ⟨rfl,f',H3,XH,hp3,vK⟩))
  go_end0;exact axn
end
section
variable {S:Nat->List Value}{B h n:Nat}{f:Nat->qY}{v:Value}{w:World}
theorem apa{w:World}{R t:Nat}{z1 z2 z3 z4 z5 z6 z7:Value}(h:w.heap[R]?=some (.cells #[z1,z2,z3,z4,z5,z6,z7] t))(x1 x2 x3 x4 x5 x6 x7:Value):
  (w.cell? ⟨R,0,none⟩=some z1/\w.frozen? ⟨R,0,none⟩=false)/\((w.setCell ⟨R,0,none⟩ x1).cell? ⟨R,1,none⟩=some z2/\(w.setCell ⟨R,0,none⟩ x1).frozen? ⟨R,1,none⟩=false)/\(((w.setCell ⟨R,0,none⟩ x1).setCell ⟨R,1,none⟩ x2).cell? ⟨R,2,none⟩=some z3/\((w.setCell ⟨R,0,none⟩ x1).setCell ⟨R,1,none⟩ x2).frozen? ⟨R,2,none⟩=false)/\((((w.setCell ⟨R,0,none⟩ x1).setCell ⟨R,1,none⟩ x2).setCell ⟨R,2,none⟩ x3).cell? ⟨R,3,none⟩=some z4/\(((w.setCell ⟨R,0,none⟩ x1).setCell ⟨R,1,none⟩ x2).setCell ⟨R,2,none⟩ x3).frozen? ⟨R,3,none⟩=false)/\(((((w.setCell ⟨R,0,none⟩ x1).setCell ⟨R,1,none⟩ x2).setCell ⟨R,2,none⟩ x3).setCell ⟨R,3,none⟩ x4).cell? ⟨R,4,none⟩=some z5/\((((w.setCell ⟨R,0,none⟩ x1).setCell ⟨R,1,none⟩ x2).setCell ⟨R,2,none⟩ x3).setCell ⟨R,3,none⟩ x4).frozen? ⟨R,4,none⟩=false)/\((((((w.setCell ⟨R,0,none⟩ x1).setCell ⟨R,1,none⟩ x2).setCell ⟨R,2,none⟩ x3).setCell ⟨R,3,none⟩ x4).setCell ⟨R,4,none⟩ x5).cell? ⟨R,5,none⟩=some z6/\(((((w.setCell ⟨R,0,none⟩ x1).setCell ⟨R,1,none⟩ x2).setCell ⟨R,2,none⟩ x3).setCell ⟨R,3,none⟩ x4).setCell ⟨R,4,none⟩ x5).frozen? ⟨R,5,none⟩=false)/\(((((((w.setCell ⟨R,0,none⟩ x1).setCell ⟨R,1,none⟩ x2).setCell ⟨R,2,none⟩ x3).setCell ⟨R,3,none⟩ x4).setCell ⟨R,4,none⟩ x5).setCell ⟨R,5,none⟩ x6).cell? ⟨R,6,none⟩=some z7/\((((((w.setCell ⟨R,0,none⟩ x1).setCell ⟨R,1,none⟩ x2).setCell ⟨R,2,none⟩ x3).setCell ⟨R,3,none⟩ x4).setCell ⟨R,4,none⟩ x5).setCell ⟨R,5,none⟩ x6).frozen? ⟨R,6,none⟩=false)/\(((((((w.setCell ⟨R,0,none⟩ x1).setCell ⟨R,1,none⟩ x2).setCell ⟨R,2,none⟩ x3).setCell ⟨R,3,none⟩ x4).setCell ⟨R,4,none⟩ x5).setCell ⟨R,5,none⟩ x6).setCell ⟨R,6,none⟩ x7).heap[R]?=some (.cells #[x1,x2,x3,x4,x5,x6,x7] t):=by
 have h1:(World.setCell _ ⟨R,0,none⟩ x1).heap[R]?=some (.cells #[x1,z2,z3,z4,z5,z6,z7] t):=jH _ R 0 _ t x1 h;have h2:(World.setCell _ ⟨R,1,none⟩ x2).heap[R]?=some (.cells #[x1,x2,z3,z4,z5,z6,z7] t):=jH _ R 1 _ t x2 h1;have h3:(World.setCell _ ⟨R,2,none⟩ x3).heap[R]?=some (.cells #[x1,x2,x3,z4,z5,z6,z7] t):=jH _ R 2 _ t x3 h2;have h4:(World.setCell _ ⟨R,3,none⟩ x4).heap[R]?=some (.cells #[x1,x2,x3,x4,z5,z6,z7] t):=jH _ R 3 _ t x4 h3;have h5:(World.setCell _ ⟨R,4,none⟩ x5).heap[R]?=some (.cells #[x1,x2,x3,x4,x5,z6,z7] t):=jH _ R 4 _ t x5 h4;have h6:(World.setCell _ ⟨R,5,none⟩ x6).heap[R]?=some (.cells #[x1,x2,x3,x4,x5,x6,z7] t):=jH _ R 5 _ t x6 h5;have h7:(World.setCell _ ⟨R,6,none⟩ x7).heap[R]?=some (.cells #[x1,x2,x3,x4,x5,x6,x7] t):=jH _ R 6 _ t x7 h6;exact⟨⟨cell_of _ h 0,vY _ h 0⟩,⟨cell_of _ h1 1,vY _ h1 1⟩,⟨cell_of _ h2 2,vY _ h2 2⟩,⟨cell_of _ h3 3,vY _ h3 3⟩,⟨cell_of _ h4 4,vY _ h4 4⟩,⟨cell_of _ h5 5,vY _ h5 5⟩,⟨cell_of _ h6 6,vY _ h6 6⟩,h7⟩
theorem aj7{c:qY->List Value}{s:Nat}(hc:∀e,(c e).length=s){w:World}{B t n g cap:Nat}{f:Nat->qY}(h:w.ownsRow B t s (.slice (some ⟨g,0,none⟩) (n+1) cap) (n+1) (zt c (n+1) f)):w.ownsRow B t s (.slice (some ⟨g,0,none⟩) n cap) n (zt c n f):=by
 refine⟨uT hc n f,.inr ?_⟩;rcases h.2 with⟨h1,_⟩|⟨g',aco,cur,h1,h2,h3,h4,h5,h6,h7⟩
 .cases h1
 .cases h1;refine⟨g,cap,cur,rfl,h2,h3,ae,h5,h6,?_⟩;have:=aP (List.take (n*s)) h7;rw[List.take_take,nJ (ji s ae),zO,at7 lF]at this;rw[this,iF lF]
theorem Ip{B t s m g:Nat}{v:Value}{xs:List Value}(hv:v.ownBlock≠some g):∀(vs:List Value)(p:Nat)(w:World),w.ownsRow B t s v m xs->(w.setCells g p vs).ownsRow B t s v m xs
 |[],_,_,h=>h
 |u::r,p,_,h=>Ip hv r (p+1) _ (ownsRow_setCell_other h (a:=⟨g,p,none⟩) hv u)
theorem pack{W:World}{g m:Nat}{w1:World}(H:HI S B h n f v W)(k2:∀b,b≠g->W.heap[b]?=w1.heap[b]?)(k3:W.heap.size=m)(b:Bt (some g) w1 W):HI S B h n f v W.drew/\(∀b,b≠g->W.drew.heap[b]?=w1.heap[b]?)/\W.drew.heap.size=m/\Bt (some g) w1 W.drew:=⟨H.abq,k2,k3,b.abq⟩
def aq6(S:Nat->List Value)(B h n:Nat)(f:Nat->qY)(v:Value)(w:World)(r:Ending)(w':World):Prop:=r=.returned (.agg (S (f 0).l).toArray)/\∃f' v',HI S B h n f' v' w'/\qN n (Oc n f) f'/\Hp f' n/\Below h w w'/\B<=w'.heap.size/\∀b,b<w.heap.size->b≠h->some b≠v.ownBlock->w'.heap[b]?=w.heap[b]?
theorem aj8(hS:Sr S)(B h n:Nat)(f:Nat->qY)(v:Value)(w:World)(H:HI S B h (n+1) f v w)(hB:B<=w.heap.size)(hn:n<=1048576)(hp:Hp f (n+1)):
  Calls prog 62 #[.pointer (some ⟨h,0,none⟩)] w λr w'=>aq6 S B h n f v w r w':=by
 obtain⟨g,cap,rfl,hg,hnc,sF⟩:=H.form ae;have Xe:cap<=9223372036854775807:=sF;clear sF;have uy:=H.low;have H0:HI S B h (n+1) f (.slice (some ⟨g,0,none⟩) (n+1) cap) (w.alloc (.cells #[.int .i64 0,.int .i64 0,.int .i64 0,.int .i64 0,.slice none 0 0,.slice none 0 0,.slice none 0 0] 55)):=⟨H.var.alloc _,H.own.alloc _,H.low,H.sg⟩;have s0:(w.alloc (.cells #[.int .i64 0,.int .i64 0,.int .i64 0,.int .i64 0,.slice none 0 0,.slice none 0 0,.slice none 0 0] 55)).heap.size=w.heap.size+1:=ai;have r0:=yM (wF hS) H0.own (i:=0) ae;have sx:=hS.one (f 0).l;obtain⟨x1,x2,x3,x4,x5,x6,x7,ex⟩:=eight (hS.len (f 0).l);unfold Jz at r0;rw[ex]at r0 sx;obtain⟨p0,p1,p2,p3,p4,p5,p6,p7⟩:=UY r0;simp only[fH,aT]at p0 p1 p2 p3 p4 p5 p6 p7;obtain⟨t1,t2,t3,t4,t5,t6,t7⟩:=Gp sx;have a0:=H0.var.cell (i:=0) ae;have H1:HI S B h (n+1) f (.slice (some ⟨g,0,none⟩) (n+1) cap) ((w.alloc (.cells #[.int .i64 0,.int .i64 0,.int .i64 0,.int .i64 0,.slice none 0 0,.slice none 0 0,.slice none 0 0] 55)).alloc (.cells #[x1,x2,x3,x4,x5,x6,x7] 55)):=⟨H0.var.alloc _,H0.own.alloc _,H0.low,H0.sg⟩
 have nF:((w.alloc (.cells #[.int .i64 0,.int .i64 0,.int .i64 0,.int .i64 0,.slice none 0 0,.slice none 0 0,.slice none 0 0] 55)).alloc (.cells #[x1,x2,x3,x4,x5,x6,x7] 55)).heap[w.heap.size+1]?=some (.cells #[x1,x2,x3,x4,x5,x6,x7] 55):=by rw[<-s0];exact dO _ _
 have nR:((w.alloc (.cells #[.int .i64 0,.int .i64 0,.int .i64 0,.int .i64 0,.slice none 0 0,.slice none 0 0,.slice none 0 0] 55)).alloc (.cells #[x1,x2,x3,x4,x5,x6,x7] 55)).heap[w.heap.size]?=some (.cells #[.int .i64 0,.int .i64 0,.int .i64 0,.int .i64 0,.slice none 0 0,.slice none 0 0,.slice none 0 0] 55):=(bM _ _ _ ae).trans (dO _ _);have b1:Below w.heap.size w ((w.alloc (.cells #[.int .i64 0,.int .i64 0,.int .i64 0,.int .i64 0,.slice none 0 0,.slice none 0 0,.slice none 0 0] 55)).alloc (.cells #[x1,x2,x3,x4,x5,x6,x7] 55)):=((aA _ _).alloc (ak _) _).alloc ae _;have s1:((w.alloc (.cells #[.int .i64 0,.int .i64 0,.int .i64 0,.int .i64 0,.slice none 0 0,.slice none 0 0,.slice none 0 0] 55)).alloc (.cells #[x1,x2,x3,x4,x5,x6,x7] 55)).heap.size=w.heap.size+2:=ai;have a1:=H1.var.cell (i:=0) ae;have ed:((n:Int)+1)-1=(n:Int):=ae;have GH:(n:Int)<((n+1:Nat):Int):=ae;have BD:(n:Int)<=(cap:Int):=ae
 have hgR:g<w.heap.size:=by
  rcases H.own.2 with⟨q,_⟩|⟨g',aco,cur,q,_,q3,_⟩
  .cases q
  .cases q;exact(bf.1 q3).1
 go_enter func62,ntmps62;clear H
 go_wp2_with fail
 generalize(w.alloc (.cells #[.int .i64 0,.int .i64 0,.int .i64 0,.int .i64 0,.slice none 0 0,.slice none 0 0,.slice none 0 0] 55)).alloc (.cells #[x1,x2,x3,x4,x5,x6,x7] 55)=w1 at*;clear H0 a0 p0 p1 p2 p3 p4 p5 p6 p7 s0 r0;have sy:=hS.one (f n).l;have rn:=yM (wF hS) H1.own (i:=n) ae;have rz:=yM (wF hS) H1.own (i:=0) ae;have H2:=H1.put hS (i:=0) ae hg (H1.sg n ae);have o1:=H1.own;obtain⟨y1,y2,y3,y4,y5,y6,y7,ey⟩:=eight (hS.len (f n).l);unfold Jz at rn rz H2;rw[ey]at rn sy H2;rw[ex]at rz;obtain⟨q0,q1,q2,q3,q4,q5,q6,q7⟩:=UY rn;obtain⟨p0,-⟩:=UY rz;simp only[fH]at p0;obtain⟨u1,u2,u3,u4,u5,u6,u7⟩:=Gp sy;obtain⟨⟨-,z0⟩,⟨⟨_,c1⟩,z1⟩,⟨⟨_,c2⟩,z2⟩,⟨⟨_,c3⟩,z3⟩,⟨⟨_,c4⟩,z4⟩,⟨⟨_,c5⟩,z5⟩,⟨⟨_,c6⟩,z6⟩,⟨_,c7⟩,z7⟩:=adA o1 (o:=0) ae (.int .i64 ((zQ (f n):Nat):Int)) y1 y2 y3 y4 y5 y6 y7
 have k2:∀b,b≠g->(w1.setCells g (0*8) (.int .i64 ((zQ (f n):Nat):Int)::[y1,y2,y3,y4,y5,y6,y7])).heap[b]?=w1.heap[b]?:=λb hb=>by
  simp only[World.setCells]
  iterate 8 rw[bF _ _ _ _ hb]
 have k3:(w1.setCells g (0*8) (.int .i64 ((zQ (f n):Nat):Int)::[y1,y2,y3,y4,y5,y6,y7])).heap.size=w.heap.size+2:=by simp only[World.setCells];simpa using s1
 have b2:=JA (o:=some g) rfl (.int .i64 ((zQ (f n):Nat):Int)::[y1,y2,y3,y4,y5,y6,y7]) (0*8) w1 (Bt.refl _ _);simp only[World.setCells,fH,aT,Nat.reduceAdd]at c1 c2 c3 c4 c5 c6 c7 z0 z1 z2 z3 z4 z5 z6 z7 H2 k2 k3 b2;clear o1 rn rz sy;go_region;obtain⟨H2d,k2d,k3d,b2d⟩:=pack H2 k2 k3 b2;clear a1 p0 q0 q1 q2 q3 q4 q5 q6 q7 c1 c2 c3 c4 c5 c6 c7 z0 z1 z2 z3 z4 z5 z6 z7 H1 H2 k2 k3 b2 u1 u2 u3 u4 u5 u6 u7;generalize World.drew _=W3 at H2d b2d k2d k3d⊢;have g0:=H2d.var.cell (i:=0) ae;have g1:=H2d.var.frozen 0
 have H3:HI S B h n (Oc n f) (.slice (some ⟨g,0,none⟩) n cap) (W3.setCell ⟨h,0,none⟩ (.slice (some ⟨g,0,none⟩) n cap)):=
  ⟨(H2d.var.set 0 (.slice (some ⟨g,0,none⟩) n cap)).congr λi hi=>pG,dF (aj7 (wF hS) H2d.own) (a:=⟨h,0,none⟩) uy _,uy,λi hi=>H2d.sg i ae⟩
 have nF3:(W3.setCell ⟨h,0,none⟩ (.slice (some ⟨g,0,none⟩) n cap)).heap[w.heap.size+1]?=some (.cells #[x1,x2,x3,x4,x5,x6,x7] 55):=(bF _ _ _ _ (by show w.heap.size+1≠h;omega)).trans ((k2d _ ae).trans nF);have nR3:=(bF W3 ⟨h,0,none⟩ (.slice (some ⟨g,0,none⟩) n cap) w.heap.size (by show w.heap.size≠h;omega)).trans ((k2d _ ae).trans nR);have s3:(W3.setCell ⟨h,0,none⟩ (.slice (some ⟨g,0,none⟩) n cap)).heap.size=w.heap.size+2:=by simpa using k3d
 have k5:=Wu hS B h n 0 (Oc n f) _ _ H3 ae (.inr rfl) (aj9 hp);rw[show((0:Nat):Int)=0 from rfl]at k5;have c7:=λ(W:World)(hR:W.heap[w.heap.size]?=some (.cells #[.int .i64 0,.int .i64 0,.int .i64 0,.int .i64 0,.slice none 0 0,.slice none 0 0,.slice none 0 0] 55))=>apa hR x1 x2 x3 x4 x5 x6 x7;clear H2d nF nR
 go_wp2_with(first|(go_at_call 104;(with_reducible refine k5.mono ?_);rintro r W5 ⟨rfl,f',H5,hR5,hp5,RF⟩;have nF5:=(RF.block (w.heap.size+1) ae oZ).trans nF3;have nR5:=(RF.block w.heap.size ae oZ).trans nR3;obtain⟨⟨e0,d0⟩,⟨e1,d1⟩,⟨e2,d2⟩,⟨e3,d3⟩,⟨e4,d4⟩,⟨e5,d5⟩,⟨e6,d6⟩,Ez⟩:=c7 W5 nR5;have m0:=cell_of W5 nF5 0;have m1:=cell_of W5 nF5 1;have m2:=cell_of W5 nF5 2;have m3:=cell_of W5 nF5 3;have m4:=cell_of W5 nF5 4;have m5:=cell_of W5 nF5 5;have m6:=cell_of W5 nF5 6;simp at m0 m1 m2 m3 m4 m5 m6;clear c7))
 have FP:=RF.size;have b6:=JA (o:=some w.heap.size) rfl [x1,x2,x3,x4,x5,x6,x7] 0 W5 (Bt.refl _ _);have H6:HI S B h n f' (.slice (some ⟨g,0,none⟩) n cap) (W5.setCells w.heap.size 0 [x1,x2,x3,x4,x5,x6,x7]):=⟨Qe ae _ _ _ H5.var,Ip oZ _ _ _ H5.own,H5.low,H5.sg⟩
 have O7:∀b,b<w.heap.size->b≠h->b≠g->(W5.setCells w.heap.size 0 [x1,x2,x3,x4,x5,x6,x7]).heap[b]?=w.heap[b]?:=λb hb h1 h2=>by rw[b6.block b ae az,RF.block b ae oZ,bF _ _ _ _ h1,k2d b h2,b1.block b hb]
 have Nu:Below h w (W5.setCells w.heap.size 0 [x1,x2,x3,x4,x5,x6,x7]):=⟨b6.os.trans (RF.os.trans (b2d.os.trans b1.os)),b6.tape.trans (RF.tape.trans (b2d.tape.trans b1.tape)),b6.output.trans (RF.output.trans (b2d.output.trans b1.output)),by have:=b6.size;omega,λb hb=>O7 b ae ae ae⟩;have hs6:B<=(W5.setCells w.heap.size 0 [x1,x2,x3,x4,x5,x6,x7]).heap.size:=by have:=b6.size;omega
 simp only[World.setCells,aT,Nat.reduceAdd]at O7 H6 Nu hs6;refine gu (nz (p:=2) rfl _ _ w.heap.size 55 _ (0,0) _ ax Ez underlying55 rfl ag) rfl ?_;exact⟨by rw[ex],f',_,H6,hR5,hp5,Nu,hs6,λb hb h1 h2=>O7 b hb h1 (λe=>h2 pM)⟩
end
theorem Tryz.PG:(prog.info? 55).map (λi=>(i.zero,i.size,i.bytes))=some (some (.agg #[.int .i64 0,.int .i64 0,.int .i64 0,.int .i64 0,.slice none 0 0,.slice none 0 0,.slice none 0 0]),7,104):=ag
def SC(w:World)(bo:Option Addr)(n:Nat)(S:Nat->List Value):Prop:=0<n->∃b o,bo=some ⟨b,o,none⟩/\b<w.heap.size/\∀i,i<n->w.rangeAt b (o+i*7) (S i)
theorem SC.below{w w':World}{bo:Option Addr}{n B:Nat}{S:Nat->List Value}(h:SC w bo n S)(hb:Below B w w')(hB:w.heap.size<=B):SC w' bo n S:=λhn=>by obtain⟨b,o,h1,h2,h3⟩:=h hn;exact⟨b,o,h1,aK h2 hb.size,λi hi j v hv=>(hb.cell (p:=⟨b,_,none⟩) (aK h2 hB)).trans (h3 i hi j v hv)⟩
def WY(ix:Nat->Nat)(i:Nat):qY:=⟨[UInt8.ofNat (ix i)],none,i,0⟩
theorem ab6{ix:Nat->Nat}{i:Nat}(h:ix i<256):zQ (WY ix i)=ix i:=by show(UInt8.ofNat (ix i)).toNat=ix i;simp[aZ h]
theorem PU{w:World}{g o:Nat}{b c d e x y z:Value}(h:w.rangeAt g o [b,c,d,e,x,y,z]):w.cell? ⟨g,o,none⟩=some b/\w.cell? ⟨g,o+1,none⟩=some c/\w.cell? ⟨g,o+2,none⟩=some d/\w.cell? ⟨g,o+3,none⟩=some e/\w.cell? ⟨g,o+4,none⟩=some x/\w.cell? ⟨g,o+5,none⟩=some y/\w.cell? ⟨g,o+6,none⟩=some z:=
 ⟨h 0 _ rfl,h 1 _ rfl,h 2 _ rfl,h 3 _ rfl,h 4 _ rfl,h 5 _ rfl,h 6 _ rfl⟩
section
variable {S:Nat->List Value}
theorem ag0{h i m k:Nat}{f out fh f2:Nat->qY}{v v2 vs v':Value}{w wq W2 wa w5:World}(hk:i-m=k+1)(hp:Hp fh (k+1))(hR:qN i f (λx=>if x<m then out x else fh (x-m)))
  (VK:∀x,x+1<m->Hp.le (out x).k (out (x+1)).k) (hle:∀x,x<k+1->0<m->Hp.le (out (m-1)).k (fh x).k) (H:HI S (h+1) h (k+1) fh v wq) (o0:wq.ownsRow (h+1) 55 7 vs m (zt (λe=>S e.l) m out)) (b0:Below h w wq)
  (Fh:qN k (Oc k fh) f2) (CJ:Hp f2 k) (H2:HI S (h+1) h k f2 v2 W2) (sZ:Below h wq W2) (s2:h+1<=W2.heap.size) (JS:∀b,b<wq.heap.size->b≠h->some b≠v.ownBlock->W2.heap[b]?=wq.heap[b]?)
  (ha:Below W2.heap.size W2 wa) (hg:wa.grownBy w5 vs.ownBlock) (ho:w5.ownsRow (h+1) 55 7 v' (m+1) (zt (λe=>S e.l) m out++S (fh 0).l)):
  m+1<=i/\HI S (h+1) h (i-(m+1)) f2 v2 w5/\Hp f2 (i-(m+1))/\qN i f (λx=>if x<m+1 then(λx=>if x=m then fh 0 else out x) x else f2 (x-(m+1)))/\(∀x,x+1<m+1->Hp.le ((λx=>if x=m then fh 0 else out x) x).k ((λx=>if x=m then fh 0 else out x) (x+1)).k)/\(∀x,x<i-(m+1)->0<m+1->Hp.le ((λx=>if x=m then fh 0 else out x) (m+1-1)).k (f2 x).k)/\w5.ownsRow (h+1) 55 7 v' (m+1) (zt (λe=>S e.l) (m+1) (λx=>if x=m then fh 0 else out x))/\Below h w w5/\h+1<=w5.heap.size:=by
 have ek:i-(m+1)=k:=ae;have hsa:=ha.size;have hsq:=sZ.size;have hR':=hR.trans ((qN.akL (k:=k) (o:=out) (g:=fh) (show m+(k+1)=i by omega)));have o4:W2.ownsRow (h+1) 55 7 vs m (zt (λe=>S e.l) m out):=rX o0 λg uB=>JS g (o0.lt g uB).2 (λe=>by have:=(o0.lt g uB).1;omega) (λe=>EW o0 H.own au uB e.symm)
 have kb:∀b,b<W2.heap.size->some b≠vs.ownBlock->w5.heap[b]?=W2.heap[b]?:=λb hb hne=>(hg.block b ae hne).trans (ha.block b hb)
 have Iu:Below (h+1) W2 w5:=((ha.mono s2).grown hg ae (λx hx=>(o4.lt x hx).1));have FP:=Iu.size;rw[ek];refine⟨ae,⟨H2.var.of_block (kb h ae (λe=>aws)),rX H2.own λg uB=>kb g (H2.own.lt g uB).2 (λe=>EW H2.own o4 au uB e.symm),H2.low,H2.sg⟩,CJ,?_,?_,?_,?_,(b0.trans sZ).trans (Iu.mono ae),ae⟩
 .exact axy
 .intro x hx;dsimp only;rw[ah (show¬x=m by omega)];by_cases e:x+1=m
  .rw[aj e];have:=hle 0 ae ae;rw[show m-1=x by omega]at this;exact this
  .rw[ah e];exact VK x ae
 .intro x hx _;dsimp only;rw[gz,aj rfl];obtain⟨j,hj,ej⟩:=Fh.from hx;rw[ej];unfold Oc;split
  .exact YZ hp k ae
  .exact YZ hp j ae
 .rw[zO,aj rfl,Q7 (g:=out) λj hj=>fV];exact ho
theorem ab9(n:Nat)(hn:n<=1048576)(w:World):(Instr.makeSlice 52 (.int .i64 0) (.int .i64 (n:Int))).run prog w=.ok (.slice (some ⟨w.heap.size,0,none⟩) 0 n) (w.alloc (.cells (madeCells #[.int .i64 0,.int .i64 0,.int .i64 0,.int .i64 0,.slice none 0 0,.slice none 0 0,.slice none 0 0] (n*7)) 55)):=by obtain⟨i0,Af,x_,w_,wH⟩:=bG Tryz.PG;have:=jg (P:=prog) w 52 55 i0 _ underlying52 Af x_ .i64 .i64 0 n ae ae fU ae;exact awK
theorem ag1(w:World)(n B:Nat)(hB:B<=w.heap.size)(hn:n<=1048576):(w.alloc (.cells (madeCells #[.int .i64 0,.int .i64 0,.int .i64 0,.int .i64 0,.slice none 0 0,.slice none 0 0,.slice none 0 0] (n*7)) 55)).ownsRow B 55 7 (.slice (some ⟨w.heap.size,0,none⟩) 0 n) 0 []:=
 ⟨rfl,.inr ⟨w.heap.size,n,madeCells #[.int .i64 0,.int .i64 0,.int .i64 0,.int .i64 0,.slice none 0 0,.slice none 0 0,.slice none 0 0] (n*7),rfl,hB,dO _ _,ae,bH,gX _ _,rfl⟩⟩
def ByI(S:Nat->List Value)(ix:Nat->Nat)(n:Nat)(w:World)(r:Ending)(w':World):Prop:=
 Below w.heap.size w w'/\∃out v,r=.returned v/\qN n (WY ix) out/\(∀i,i+1<n->Hp.le (out i).k (out (i+1)).k)/\w'.ownsRow w.heap.size 55 7 v n (zt (λe=>S e.l) n out)
theorem ab7(hS:Sr S)(ix:Nat->Nat)(n cap:Nat)(bo:Option Addr)(w:World)(hn:n<=1048576)(hB:SC w bo n S)(hx:∀i,i<n->ix i<256/\(S i)[2]?=some (.int .i64 ((ix i:Nat):Int))):
  Calls prog 35 #[.slice bo n cap] w λr w'=>ByI S ix n w r w':=by
 obtain⟨i0,Af,x_,w_,wH⟩:=bG Tryz.PG
 have v0:(w.alloc (.cells #[.slice none 0 0] 132)).rowIs w.heap.size 132 1 (λ_=>.slice none 0 0):=
  World.rowIs_alloc w #[.slice none 0 0] 132 (λ_=>.slice none 0 0) (λi hi=>by obtain rfl:i=0:=iK;rfl)
 have b0:Below w.heap.size w (w.alloc (.cells #[.slice none 0 0] 132)):=(aA _ _).alloc (ak _) _;have s0:(w.alloc (.cells #[.slice none 0 0] 132)).heap.size=w.heap.size+1:=ai;have H0:HI S (w.heap.size+1) w.heap.size 0 (WY ix) (.slice none 0 0) (w.alloc (.cells #[.slice none 0 0] 132)):=⟨v0,dh _ _ _ _,ae,λi hi=>absurd hi ae⟩;go_enter func35,ntmps35;go_wp2;generalize w.alloc (.cells #[.slice none 0 0] 132)=w0 at*;generalize hh:w.heap.size=h at*
 go_loopw [5,9] (λ_ vi wr=>∃(i:Nat)(f':Nat->qY)(v:Value),i<=n/\vi=.int .i64 ((i:Nat):Int)/\HI S (h+1) h i f' v wr/\qN i (WY ix) f'/\Hp f' i/\Below h w wr/\h+1<=wr.heap.size) (λ_ vi _=>n-(intOf vi).toNat)
 case atStart=>exact⟨0,_,_,ae,rfl,H0,qN.refl _ _,λc _ hc=>absurd hc ae,b0,ae⟩
 case round=>
  clear v0 b0 s0 H0;obtain⟨i,f',v,hi,rfl,H,hR,hp,hb,hs⟩:=hrel;by_cases qE:i<n
  .have Ag:(i:Int)<(n:Int):=ae;obtain⟨b,o,rfl,Ns,hcell⟩:=hB.below hb ae ae;have ri:=hcell i qE;obtain⟨hxi,h2⟩:=hx i qE;have sx:=hS.one i;have kp:=λw1 H1 s1=>agZ hS (h+1) h i f' v (WY ix i) w1 ⟨_,rfl⟩ H1 s1 ae hp
   rw[show(WY ix i).l=i from rfl,ab6 hxi]at kp;obtain⟨x1,x2,x3,x4,x5,x6,x7,ex⟩:=eight (hS.len i);rw[ex]at ri h2 sx kp;simp only[iV,iU,gy]at h2;subst h2;obtain⟨p0,p1,p2,p3,p4,p5,p6⟩:=PU ri;obtain⟨t1,t2,-,t4,t5,t6,t7⟩:=Gp sx;have cn:=D7 wr [x1,x2,.int .i64 ((ix i:Nat):Int),x4,x5,x6,x7] 55;have c0:=cn 0;have c1:=cn 1;have c2:=cn 2;have c3:=cn 3;have c4:=cn 4;have c5:=cn 5;have c6:=cn 6;simp only[iU,iV]at c0 c1 c2 c3 c4 c5 c6;have H1:HI S (h+1) h i f' v (wr.alloc (.cells #[x1,x2,.int .i64 ((ix i:Nat):Int),x4,x5,x6,x7] 55)):=⟨H.var.alloc _,H.own.alloc _,H.low,H.sg⟩;have b1:=hb.alloc ae (.cells #[x1,x2,.int .i64 ((ix i:Nat):Int),x4,x5,x6,x7] 55);have s1:h+1<=(wr.alloc (.cells #[x1,x2,.int .i64 ((ix i:Nat):Int),x4,x5,x6,x7] 55)).heap.size:=az;have kp':=kp _ H1 s1;have Fh:qN (i+1) (WY ix) (λx=>if x=i then WY ix i else f' x):=hR.snoc (λ_ _=>rfl) (λx hx=>fV) (by rw[aj rfl]);clear H1 H hb cn kp hcell ri sx;generalize BB:wr.alloc (.cells #[x1,x2,.int .i64 ((ix i:Nat):Int),x4,x5,x6,x7] 55)=w1 at*
   go_wp2_with(first
    |(go_at_call 60;(with_reducible refine kp'.mono ?_);rintro r w2 ⟨rfl,f2,v2,H2,XH,CJ,sZ,zD⟩))
   go_roundw
   case rel=>exact⟨i+1,f2,v2,ae,aW,H2,Fh.trans XH,CJ,b1.trans sZ,zD⟩
   case measure=>simp[intOf];omega
  .obtain rfl:i=n:=ae;have GH:¬((i:Int)<(i:Int)):=ae;have mk:=ab9 i hn wr;have C_:=ag1 wr i (h+1) hs hn;generalize madeCells #[.int .i64 0,.int .i64 0,.int .i64 0,.int .i64 0,.slice none 0 0,.slice none 0 0,.slice none 0 0] (i*7)=Z at*;have H1:HI S (h+1) h i f' v (wr.alloc (.cells Z 55)):=⟨H.var.alloc _,H.own.alloc _,H.low,H.sg⟩;have b1:=hb.alloc ae (.cells Z 55);have s1:h+1<=(wr.alloc (.cells Z 55)).heap.size:=az;clear H hb hs;go_wp2;generalize wr.alloc (.cells Z 55)=w1 at*
   go_loopw [6] (λvs wq=>∃(m:Nat)(out fh:Nat->qY)(v:Value),m<=i/\HI S (h+1) h (i-m) fh v wq/\Hp fh (i-m)/\qN i (WY ix) (λx=>if x<m then out x else fh (x-m))/\(∀x,x+1<m->Hp.le (out x).k (out (x+1)).k)/\(∀x,x<i-m->0<m->Hp.le (out (m-1)).k (fh x).k)/\wq.ownsRow (h+1) 55 7 vs m (zt (λe=>S e.l) m out)/\Below h w wq/\h+1<=wq.heap.size) (λvs _=>match vs with| .slice _ m _=>i-m|_=>0)
   case atStart=>exact⟨0,f',f',v,ae,H1,hp,hR.congr λx _=>avM,λx hx=>absurd hx ae,λx _ h0=>absurd h0 ae,C_,b1,s1⟩
   case round=>
    clear H1 C_ b1 s1 mk hp hR;obtain⟨m,out,fh,v,hm,H,hp,hR,VK,hle,uK,hb,hs⟩:=hrel;have kl:=aj6 H
    obtain⟨bs,cs,rfl⟩:∃bs cs,u6=.slice bs m cs:=by exact ayc
    by_cases hmn:m<i
    .obtain⟨k,VH⟩:∃k,i-m=k+1:=⟨i-m-1,ae⟩;rw[VH]at H hp kl hle;have hgt:(0:Int)<(k:Int)+1:=ae;have kp:=aj8 hS (h+1) h k fh v _ H hs ae hp;unfold aq6 at kp;have sy:=hS.one (fh 0).l;have nx:=λ{W2 wa w5 f2 v2 v'}=>ag0 (W2:=W2) (wa:=wa) (w5:=w5) (f2:=f2) (v2:=v2) (v':=v') VH hp hR VK hle H uK hb;obtain⟨y1,y2,y3,y4,y5,y6,y7,ey⟩:=eight (hS.len (fh 0).l);rw[ey]at kp sy nx
     go_wp2_with(first
      |(go_at_call 61;(with_reducible refine kl.mono ?_);rintro r w' ⟨rfl,tH⟩;obtain rfl:=tH.symm)
      |(go_at_call 62;(with_reducible refine kp.mono ?_);rintro r w2 ⟨rfl,f2,v2,H2,Fh,CJ,sZ,zD,JS⟩;have o2:=rX uK λg uB=>JS g (uK.lt g uB).2 (λe=>by have:=(uK.lt g uB).1;omega) (λe=>EW uK H.own au uB e.symm))
      |(at_builtin;refine dG _ rfl _ _ 52 rfl (h+1) 55 i0 (.agg #[.int .i64 0,.int .i64 0,.int .i64 0,.int .i64 0,.slice none 0 0,.slice none 0 0,.slice none 0 0]) 7 104 underlying52 Af x_ w_ wH rfl au _ _ _ rfl (o2.alloc _) ⟨w2.heap.size,0,none⟩ 1 1 [y1,y2,y3,y4,y5,y6,y7] rfl rfl (Ee _ _ _) sy bH ae az ?_;intro v' w5 CE tq _;obtain⟨gq,cq,rfl,_,_⟩:=CE.form ae))
     go_roundw
     case rel=>exact⟨m+1,λx=>if x=m then fh 0 else out x,f2,v2,nx Fh CJ H2 sZ zD JS ((aA _ _).alloc (ak _) _) tq CE⟩
     case measure=>simp;omega
    .obtain rfl:m=i:=ae;rw[kD]at kl;rw[show((0:Nat):Int)=0 from rfl]at kl;have Ez:qN m (WY ix) out:=hR.congr λx hx=>by rw[aj hx]
     clear hp hle hR H
     go_wp2_with(first|(go_at_call 61;(with_reducible refine kl.mono ?_);rintro r w' ⟨rfl,tH⟩;obtain rfl:=tH.symm))
     go_ret;exact⟨auY,out,_,rfl,Ez,VK,avN⟩
end
end Go.Proofs.Y
namespace Go.Proofs.Y
open Go.Proofs.Tryz
open Go.RowKit Go.Deep
def asb(w:World)(v:Value)(xs:List Value):Prop:=
 (v=.slice none 0 0/\xs=[])\/∃g off cap,v=.slice (some ⟨g,off,none⟩) xs.length cap/\∀j u,xs[j]?=some u->w.cell? ⟨g,off+j,none⟩=some u
def zF(l:List Nat):List Value:=l.map λ(z:Nat)=>Value.int .i64 (z:Int)
theorem Tn{l:List Nat}{j:Nat}(h:j<l.length):(zF l)[j]?=some (.int .i64 ((l.getD j 0:Nat):Int)):=by simp[zF,a_ h]
theorem E5(l:List Nat):(zF l).length=l.length:=by simp[zF]
def CV(l:List Nat):Nat:=if l.sum<=65536 then l.sum else 65537
def DZ(k:Nat)(l:List Nat):Nat:=(CV l+k-1)/k
theorem Yj{α:Type}{a b:List α}(hl:a.length=b.length)(h:∀t,t<a.length->a[t]?=b[t]?):a=b:=by
 apply iY;intro i;by_cases hi:i<a.length
 .exact h i hi
 .rw[gG ae,gG ae]
theorem qR.len{w:World}{v:Value}{xs:List Value}(h:qR w v xs):∃ba cap,v=.slice ba xs.length cap:=by obtain⟨ba,cap,e,_⟩:=h;exact⟨ba,cap,e⟩
theorem qR.get{w:World}{ba:Option Addr}{cap n:Nat}{xs:List Value}(h:qR w (.slice ba n cap) xs){j:Nat}{u:Value}(hj:xs[j]?=some u):∃b off,ba=some ⟨b,off,none⟩/\w.cell? ⟨b,off+j,none⟩=some u:=by obtain⟨ba',aco,e,_,h3⟩:=h;cases e;exact h3 j u hj
theorem Tt{w w':World}(h:∃m,w'=w.drewN m):∃m,w'.drew=w.drewN m:=by obtain⟨m,rfl⟩:=h;exact⟨m+1,rfl⟩
theorem agO(a b:List (List UInt8))(va vb:Value)(w:World)(ha:qR w va (wO a))(hb:qR w vb (wO b))(hl:a.length<=1048576):
  Calls prog 105 #[va,vb] w λr w'=>r=.returned (.bool (decide (a=b)))/\∃m,w'=w.drewN m:=by
 obtain⟨pa,ca,rfl⟩:=ha.len;obtain⟨pb,cb,rfl⟩:=hb.len;rw[v_]at ha hb⊢;rw[v_];by_cases hn:a.length=b.length
 .have h1:((a.length:Int)==(b.length:Int))=true:=az;go_enter func105,ntmps105;go_wp2
  go_loopw [5,13] (λ_ vi wr=>∃j:Nat,j<=a.length/\vi=.int .i64 (j:Int)/\(∃m,wr=w.drewN m)/\∀t,t<j->a[t]?=b[t]?) (λ_ vi _=>a.length-(intOf vi).toNat)
  case atStart=>exact⟨0,ae,rfl,⟨0,rfl⟩,λt ht=>absurd ht ae⟩
  case round=>
   obtain⟨j,hj,rfl,hw,acB⟩:=hrel;by_cases qE:j<a.length
   .have Ag:(j:Int)<(a.length:Int):=ae;have ZY:(j:Int)<(b.length:Int):=ae;obtain⟨ga,oa,rfl,c1⟩:=ha.get (Gf qE);obtain⟨gb,ob,rfl,c2⟩:=hb.get (Gf (l:=b) (j:=j) ae);replace c1:wr.cell? ⟨ga,oa+j,none⟩=some (.string ⟨(a.getD j []).toArray⟩):=by obtain⟨m,rfl⟩:=hw;exact c1
    replace c2:wr.cell? ⟨gb,ob+j,none⟩=some (.string ⟨(b.getD j []).toArray⟩):=by obtain⟨m,rfl⟩:=hw;exact c2
    by_cases e:a.getD j []=b.getD j []
    .have hs:∀t,t<j+1->a[t]?=b[t]?:=λt ht=>by
      by_cases et:t=j
      .exact axA
      .exact acB t ae
     rw[e]at c1;clear hb ha
     go_wp2_with fail
     go_region;go_wp2
     go_roundw
     case rel=>exact⟨j+1,ae,aW,Tt hw,hs⟩
     case measure=>simp[intOf];omega
    .have hne:(a.getD j []==b.getD j [])=false:=nC.2 e;have hd:decide (a=b)=false:=dP λh=>e jf
     clear hb ha;generalize a.getD j []=x at*;generalize b.getD j []=y at*
     go_wp2_with fail
     go_region;go_wp2;go_ret;exact⟨pI,Tt hw⟩
   .exact axx
 .have h1:((a.length:Int)==(b.length:Int))=false:=az;have hd:decide (a=b)=false:=dP λh=>hn jf
  go_enter func105,ntmps105;go_wp2;go_ret;exact⟨pI,0,rfl⟩
theorem agP(a b:List Nat)(va vb:Value)(w:World)(ha:qR w va (zF a))(hb:qR w vb (zF b))(hl:a.length<=1048576):
  Calls prog 106 #[va,vb] w λr w'=>r=.returned (.bool (decide (a=b)))/\∃m,w'=w.drewN m:=by
 obtain⟨pa,ca,rfl⟩:=ha.len;obtain⟨pb,cb,rfl⟩:=hb.len;rw[E5]at ha hb⊢;rw[E5];by_cases hn:a.length=b.length
 .have h1:((a.length:Int)==(b.length:Int))=true:=az;go_enter func106,ntmps106;go_wp2
  go_loopw [5,13] (λ_ vi wr=>∃j:Nat,j<=a.length/\vi=.int .i64 (j:Int)/\(∃m,wr=w.drewN m)/\∀t,t<j->a[t]?=b[t]?) (λ_ vi _=>a.length-(intOf vi).toNat)
  case atStart=>exact⟨0,ae,rfl,⟨0,rfl⟩,λt ht=>absurd ht ae⟩
  case round=>
   obtain⟨j,hj,rfl,hw,acB⟩:=hrel;by_cases qE:j<a.length
   .have Ag:(j:Int)<(a.length:Int):=ae;have ZY:(j:Int)<(b.length:Int):=ae;obtain⟨ga,oa,rfl,c1⟩:=ha.get (Tn qE);obtain⟨gb,ob,rfl,c2⟩:=hb.get (Tn (l:=b) (j:=j) ae);replace c1:wr.cell? ⟨ga,oa+j,none⟩=some (.int .i64 ((a.getD j 0:Nat):Int)):=by obtain⟨m,rfl⟩:=hw;exact c1
    replace c2:wr.cell? ⟨gb,ob+j,none⟩=some (.int .i64 ((b.getD j 0:Nat):Int)):=by obtain⟨m,rfl⟩:=hw;exact c2
    by_cases e:a.getD j 0=b.getD j 0
    .have hs:∀t,t<j+1->a[t]?=b[t]?:=λt ht=>by
      by_cases et:t=j
      .exact axA
      .exact acB t ae
     rw[e]at c1;clear hb ha
     go_wp2_with fail
     go_region;go_wp2
     go_roundw
     case rel=>exact⟨j+1,ae,aW,Tt hw,hs⟩
     case measure=>simp[intOf];omega
    .have hne:(((a.getD j 0:Nat):Int)==((b.getD j 0:Nat):Int))=false:=nC.2 λx=>e ae
     have hd:decide (a=b)=false:=dP λh=>e jf
     clear hb ha;generalize a.getD j 0=x at*;generalize b.getD j 0=y at*
     go_wp2_with fail
     go_region;go_wp2;go_ret;exact⟨pI,Tt hw⟩
   .exact axx
 .have h1:((a.length:Int)==(b.length:Int))=false:=az;have hd:decide (a=b)=false:=dP λh=>hn jf
  go_enter func106,ntmps106;go_wp2;go_ret;exact⟨pI,0,rfl⟩
def eR:Option (Nat×Nat)->Nat
 |none=>0
 |some x=>x.1
def Ph(r s:Option (Nat×Nat)):Option (Nat×Nat):=match r with|none=>s|some x=>some x
def VC(r:Option (Nat×Nat)):Prop:=∀x,r=some x->x.1≠0
theorem FZ:VC none:=λ_ h=>eP
theorem Ea{x y:Nat}(h:x≠0):VC (some (x,y)):=λ_ e=>by cases e;exact h
theorem VC.or{r s:Option (Nat×Nat)}(h:VC r)(h':VC s):VC (Ph r s):=by
 cases r with
 |none=>exact h'
 |some x=>exact h
theorem Pz(l:List UInt8):∀(ws:List UInt8)(a:Nat),VC (CU l a ws)
 |[],_=>FZ
 |c::ws,a=>by
  unfold CU;split
  .exact Ea au
  .split
   .exact Pz l ws (a+1)
   .exact Ea au
theorem MB(l:List UInt8)(a n:Nat):VC (zW l a n):=by
 unfold zW;split
 .exact Ea au
 .split
  .exact FZ
  .exact Ea au
def yZ(ok:Bool)(x y:Nat):Option (Nat×Nat):=if ok then none else some (x,y)
theorem xh{ok:Bool}{x y:Nat}(h:x≠0):VC (yZ ok x y):=by
 unfold yZ;split
 .exact FZ
 .exact Ea h
section
variable {sb:Nat}{v:Value}{at_:Nat}{r:Option (Nat×Nat)}{w:World}
end
section
variable {sb bb bo cap:Nat}{l:List UInt8}{at_:Nat}{r:Option (Nat×Nat)}{w:World}
end
def Ba:List UInt8:=[67,65,73,82,78,49]
def TP(r:Option (Nat×Nat))(k n i z c m ln zz:Nat):Option (Nat×Nat):=
 Ph (Ph (Ph (Ph (Ph (Ph (Ph (Ph r (yZ (decide (1<=k/\k<=128)) 1 6)) (yZ (decide (k<=n/\n<=128)) 1 7)) (yZ (decide (i<n)) 1 8)) (yZ (decide (z=0)) 1 9)) (yZ (decide (1<=c/\c<=65536)) 1 10)) (yZ (decide (4<=m/\m<=300000)) 1 14)) (yZ (decide (ln<=65536)) 1 18)) (yZ (decide (zz=0)) 1 22)
def yQ(k n i c:Nat)(a b d:Value):List Value:=[.int .i64 (k:Int),.int .i64 (n:Int),.int .i64 (i:Int),.int .i64 (c:Int),a,b,d]
