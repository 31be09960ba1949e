import Derived.Test.YtnbflnamlpodcaaGreatDoorEnI
import Derived.Test.YtnbflnamlpodcaaGreatDoorDeA
set_option maxHeartbeats 16000000
set_option maxRecDepth 100000
namespace Go.Proofs.Y
open Go.Proofs.Tryz
open Go.RowKit Go.Deep Go.Lf Go.Conc Go.Hp
def Sub(u v:ah):Prop:=u.heap.size<=v.heap.size/\∀(b:Nat)(c:aB)(t:aF)(fr:Nat×Nat),u.heap[b]?=some (.cells c t fr)->v.heap[b]?=some (.cells c t fr)
section
variable {u v:ah}
theorem Sub.cell(h:Sub u v){b o:Nat}{x:ai}(hc:u.cell? ⟨b,o,none⟩=some x):v.cell? ⟨b,o,none⟩=some x:=by
 have h':=hc;unfold World.cell? at h';cases e:u.heap[b]? with
 |none=>simp only[e]at h';cases h'
 |some y=>
  cases y with
  |cells c t fr=>
   have:=h.2 b c t fr e;simp only[World.cell?,e]at hc;simp only[World.cell?,this];exact hc
  |_=>simp only[e]at h';cases h'
theorem Sub.row(h:Sub u v){b:Nat}{cs:aK}{t:aF}(hr:ql u b cs t):ql v b cs t:=h.2 _ _ _ _ hr
theorem Sub.lies(h:Sub u v){x:ai}{xs:aK}(hl:qU u x xs):qU v x xs:=by
 obtain⟨ba,cap,e,h1,h2⟩:=hl
 exact⟨ba,cap,e,h1,λj y hj=>by obtain⟨b,off,h3,h4⟩:=h2 j y hj;exact⟨b,off,h3,h.cell h4⟩⟩
theorem Sub.IU(h:Sub u v){b o:Nat}{l:ak}(hb:Dv u b o l):Dv v b o l:=λj hj=>h.cell (hb j hj)
theorem Sub.tab(h:Sub u v)(ht:Du u):Du v:=⟨bG ht.1 h.1,λi hi=>h.cell (ht.2 i hi)⟩
theorem Sub.args{bo:aY}{m cap:Nat}{f:Nat->qX}{d:qX->ak}(h:Sub u v)(ha:WX u bo m cap f d):WX v bo m cap f d:=
 ⟨ha.hm,ha.Ci,ha.hbo,ha.hk,ha.hl,ha.bc.up h.1 h.cell,λi hi=>(ha.dat i hi).grow h.1 h.cell⟩
end
structure KX(bh:Nat)(a b:ah):Prop where
 os:b.os=a.os
 output:b.output=a.output
 size:a.heap.size<=b.heap.size
 block:∀x,x<a.heap.size->x≠bh->b.heap[x]?=a.heap[x]?
theorem KX.refl(bh:Nat)(a:ah):KX bh a a:=⟨rfl,rfl,az _,λ_ _ _=>rfl⟩
theorem KX.kept{bh:Nat}{a b c:ah}(h:KX bh a b)(h':Kept b c):KX bh a c:=⟨h'.os.trans h.os,h'.output.trans h.output,bu h.size h'.size,λx hx hn=>(h'.block x (bG hx h.size)).trans (h.block x hx hn)⟩
theorem KX.set{bh i:Nat}{a b:ah}(h:KX bh a b)(y:ai):KX bh a (b.setCell ⟨bh,i,none⟩ y):=⟨h.os,h.output,by rw[avL];exact h.size,λx hx hn=>(dD _ _ _ x hn).trans (h.block x hx hn)⟩
theorem KX.sub{bh:Nat}{u a b:ah}(h:KX bh a b)(hs:Sub u a)(hu:u.heap.size<=bh):Sub u b:=⟨bu hs.1 h.size,λx c t fr hx=>by have qK:=(dh.1 hx).1;rw[h.block x (bG qK hs.1) ag];exact hs.2 x c t fr hx⟩
structure VA(K N L Cc bh:Nat)(dN:Nat->Nat)(l:ak)(v:ah):Prop where
 qH:∀t,t<N->v.cell? ⟨Cc,t,none⟩=some (.slice (some ⟨dN t,0,none⟩) L L)
 IU:∀t,t<N->v.heap[dN t]?=some (.cells (sJ (zW K L l t)).toArray 5)
 ne:Cc≠bh
structure LA(K N C m L bh:Nat)(g:Nat->qX)(l:ak)(v0:ah)(i:Nat)(ov:Nat->ai)(v:ah):Prop where
 kx:KX bh v0 v
 sh:∃cur:aB,v.heap[bh]?=some (.cells cur 34)/\cur.size=N/\∀t,t<i->cur[t]?=some (ov t)
 own:∀t,t<i->rO 0 v (ov t) (Jq K N C (qE m g) (qx m g) t (zW K L l t))
section
variable {K N C m L Cc bh:Nat}{dN:Nat->Nat}{g:Nat->qX}{l:ak}{v0 v:ah}{i:Nat}{ov:Nat->ai}
theorem LA.tape(h:LA K N C m L bh g l v0 i ov v)(τ:Nat->Question->Nat)(d:Nat):LA K N C m L bh g l v0 i ov {v with tape:=τ,drawn:=d}:=⟨⟨h.kx.os,h.kx.output,h.kx.size,h.kx.block⟩,h.sh,h.own⟩
theorem LA.ne(_h:LA K N C m L bh g l v0 i ov v)(hV:VA K N L Cc bh dN l v0)(hb:∃cur:aB,v0.heap[bh]?=some (.cells cur 34)){t:Nat}(ht:t<N):dN t≠bh:=by intro e;obtain⟨cur,hc⟩:=hb;have:=hV.IU t ht;rw[e,hc]at this;cases this
theorem LA.qH(h:LA K N C m L bh g l v0 i ov v)(hV:VA K N L Cc bh dN l v0){t:Nat}(ht:t<N):v.cell? ⟨Cc,t,none⟩=some (.slice (some ⟨dN t,0,none⟩) L L):=by have h1:=hV.qH t ht;have h2:=h.kx.block Cc (rG h1) hV.ne;simp only[World.cell?,h2]at h1⊢;exact h1
theorem LA.lies(h:LA K N C m L bh g l v0 i ov v)(hV:VA K N L Cc bh dN l v0)(hb:∃cur:aB,v0.heap[bh]?=some (.cells cur 34)){t:Nat}(ht:t<N):qU v (.slice (some ⟨dN t,0,none⟩) L L) (sJ (zW K L l t)):=by have h1:=hV.IU t ht;have h2:=(h.kx.block (dN t) (dh.1 h1).1 (h.ne hV hb ht)).trans h1;refine⟨some ⟨dN t,0,none⟩,L,by rw[sZ,yJ],by rw[sZ,yJ];exact az _,λj x hj=>⟨dN t,0,rfl,?_⟩⟩;rw[bM];simp only[World.cell?,h2];simpa using hj
theorem LA.kept{w:ah}(h:LA K N C m L bh g l v0 i ov v)(hk:Kept v w):LA K N C m L bh g l v0 i ov w:=by obtain⟨cur,h1,h2,h3⟩:=h.sh;refine⟨h.kx.kept hk,⟨cur,(hk.block bh (dh.1 h1).1).trans h1,h2,h3⟩,λt ht=>rU (h.own t ht) λb hb=>hk.block b (gJ (h.own t ht) b hb).2⟩
theorem LA.store(h:LA K N C m L bh g l v0 i ov v)(hi:i<N){y:ai}(hy:rO 0 v y (Jq K N C (qE m g) (qx m g) i (zW K L l i))):LA K N C m L bh g l v0 (i+1) (λt=>if t=i then y else ov t) (v.setCell ⟨bh,i,none⟩ y):=by
 obtain⟨cur,h1,h2,h3⟩:=h.sh
 have kp:∀{z:ai}{q:ak},rO 0 v z q->rO 0 (v.setCell ⟨bh,i,none⟩ y) z q:=λ{z q} hz=>rU hz λb hb=>dD _ _ _ b (λe=>by obtain⟨c1,f1,e1⟩:=Lib.ownsRow_kind hz b hb;rw[show b=bh from e,h1]at e1;cases e1)
 refine⟨h.kx.set y,⟨cur.setIfInBounds i y,?_,by simp[h2],λt ht=>?_⟩,λt ht=>?_⟩
 .have qK:=(dh.1 h1).1;have hk:=(dh.1 h1).2;show(v.heap.modify bh _)[bh]?=_;rw[mf (by rw[Array.size_modify];exact qK),Array.getElem_modify_self,hk];rfl
 .by_cases e:t=i
  .subst e;simp[h2,hi]
  .rw[au e,jZ (dU e)];exact h3 t ag
 .by_cases e:t=i
  .subst e;rw[ay rfl];exact kp hy
  .rw[au e];exact kp (h.own t ag)
end
noncomputable def qa7:{x:Array Oper//x=uq (qM Aw)}:=⟨_,by(simp only[Aw,aC6,yN,Qh,qM,qA,uq,Tryz.f17,aQ];rfl)⟩
noncomputable def agn:Code:=Qh (qM (qA (qA Aw)))
noncomputable def qa8:{x:Array Oper//x=uq (qM agn)}:=⟨_,by(simp only[agn,Aw,aC6,yN,Qh,qM,qA,uq,Tryz.f17,aQ];rfl)⟩
noncomputable def qa9:{x:Array Oper//x=uq (qM (qA agn))}:=⟨_,by(simp only[agn,Aw,aC6,yN,Qh,qM,qA,uq,Tryz.f17,aQ];rfl)⟩
noncomputable def Zv:{x:Array Oper//x=uq (qA (qA agn))}:=⟨_,by(simp only[agn,Aw,aC6,yN,Qh,qM,qA,uq,Tryz.f17,aQ];rfl)⟩
noncomputable def aq5:{x:Array Oper//x=uq (qA (qA (qA Aw)))}:=⟨_,by(simp only[Aw,aC6,yN,Qh,qM,qA,uq,Tryz.f17,aQ];rfl)⟩
noncomputable def aq6:{x:Array Oper//x=uq (qM Jz)}:=⟨_,by(simp only[Jz,yN,qM,qA,uq,Tryz.f17,aQ];rfl)⟩
noncomputable def aO7:Array Oper:=qa7.1
noncomputable def aO8:Array Oper:=qa8.1
noncomputable def aO9:Array Oper:=qa9.1
noncomputable def UW:Array Oper:=Zv.1
noncomputable def aoO:Array Oper:=aq5.1
noncomputable def aq7:Array Oper:=aq6.1
theorem aa_:Aw=.seq (.region 7 aO7 false) (.seq (.cond (.tmp 37) .skip (.exit 0)) (.seq (.block 1 (.seq (.region 8 aO8 false) (.seq (.region 9 aO9 false) (.region 10 UW false)))) (.region 11 aoO false))):=aj
theorem aiK:Jz=.seq (.region 12 aq7 false) .ret:=aj
theorem agp:UW.size=7:=aj
def TL(pc bh Cc N:Nat)(vn vs vm:ai)(x:Int)(T:aB):Prop:=∃f:Nat->ai,T=#[f 0,f 1,f 2,.pointer (some ⟨pc,0,none⟩),f 4,f 5,vn,vs,vm,.slice (some ⟨bh,0,none⟩) N N,f 10,f 11,f 12,f 13,f 14,f 15,f 16,f 17,f 18,f 19,f 20,f 21,f 22,f 23,f 24,f 25,f 26,f 27,f 28,f 29,f 30,f 31,f 32,f 33,.slice (some ⟨Cc,0,none⟩) N N,.int .i64 ((N:Nat):Int),.int .i64 x,f 37,f 38,f 39,f 40,f 41,f 42,f 43,f 44,f 45,f 46,f 47,f 48,f 49,f 50,f 51,f 52,f 53,f 54,f 55,f 56,f 57,f 58,f 59]
theorem afd{pc bh Cc N:Nat}{vn vs vm:ai}{x:Int}{T:aB}(h:T=#[ae T 0,ae T 1,ae T 2,.pointer (some ⟨pc,0,none⟩),ae T 4,ae T 5,vn,vs,vm,.slice (some ⟨bh,0,none⟩) N N,ae T 10,ae T 11,ae T 12,ae T 13,ae T 14,ae T 15,ae T 16,ae T 17,ae T 18,ae T 19,ae T 20,ae T 21,ae T 22,ae T 23,ae T 24,ae T 25,ae T 26,ae T 27,ae T 28,ae T 29,ae T 30,ae T 31,ae T 32,ae T 33,.slice (some ⟨Cc,0,none⟩) N N,.int .i64 ((N:Nat):Int),.int .i64 x,ae T 37,ae T 38,ae T 39,ae T 40,ae T 41,ae T 42,ae T 43,ae T 44,ae T 45,ae T 46,ae T 47,ae T 48,ae T 49,ae T 50,ae T 51,ae T 52,ae T 53,ae T 54,ae T 55,ae T 56,ae T 57,ae T 58,ae T 59]):TL pc bh Cc N vn vs vm x T:=⟨λi=>T.getD i undef,h⟩
section
variable {X:Nat->Prop}{Y:Nat->aV}{D:Nat->ah->aH->Prop}{Stop:aG->ah->Prop}{cs:aP}{QB:aJ}
theorem aiL(hD:uU X D){K N C m pc gm cm bh Cc L:Nat}{dN:Nat->Nat}{bN bZ:aY}{cN cZ:Nat}{g:Nat->qX}{l:ak}{u v0:ah}(hKN:1<=K/\K<=N/\N<=128)(hC:1<=C/\C<=65536)(hL:L<=65536)(hNm:xk (qE m g))(hFw:MK (qE m g) (qx m g))
  (par:ql u pc [.int .i64 ((K:Nat):Int),.int .i64 ((N:Nat):Int),.int .i64 ((C:Nat):Int)] 24) (OD:Dv u gm 0 (rJ (xq (qE m g) (qx m g) (qE m g).length))) (gml:gm<u.heap.size) (tab:Du u) (hu:u.heap.size<=bh) (Wy:Sub u v0) (hV:VA K N L Cc bh dN l v0) (xB:∃cur:aB,v0.heap[bh]?=some (.cells cur 34))
  (done:∀v ov,LA K N C m L bh g l v0 N ov v->∀w,qQ X Y w v->r_ prog D Stop (G (QB.finish (.tuple #[.slice (some ⟨bh,0,none⟩) N N,.bool true])) cs) w):
  ∀(q i:Nat)(T:aB)(v:ah)(ov:Nat->ai),i+q=N->TL pc bh Cc N (.slice bN m cN) (.slice bZ m cZ) (.slice (some ⟨gm,0,none⟩) (Zw m g) cm) ((i:Nat):Int) T->LA K N C m L bh g l v0 i ov v->rC prog X Y D Stop none [] 17 (QB::cs) [.code Aw,.inLoop Aw,.inBlock 0,.code Jz] T v:=by
 intro q
 induction q with
 |zero=>
  intro i T v ov hi ⟨f,hT⟩ hA;obtain rfl:i=N:=ag;subst hT;have Hg:¬((i:Int)<(i:Int)):=ag;rw[aa_];refine qy hD (rF qV hD aj sfA λR hR τ d=>?_);simp only[aO7,qa7];go_wp2;change rC _ _ _ _ _ _ _ _ _ _ _ v;refine qy hD (xu (b:=false) hD ax (Yf hD rfl ?_));rw[aiK];refine qy hD (rF qV hD aj sfA λR hR τ d=>?_);simp only[aq7,aq6];go_wp2;change rC _ _ _ _ _ _ _ _ _ _ _ v;refine Ju (a:=⟨_,[]⟩) hD rfl func17 (λτ d=>results_tmp2 (fn:=Tryz.f17) (t:=4) (u:=5) rfl _ _ _) ?_;exact done v ov hA
 |succ q ih=>
  intro i T v ov hi ⟨f,hT⟩ hA;subst hT;have qK:i<N:=ag;have Am:(i:Int)<(N:Int):=ag;rw[show[Item.code Aw,Item.inLoop Aw,Item.inBlock 0,Item.code Jz]=[Item.code (.seq (.region 7 aO7 false) (.seq (.cond (.tmp 37) .skip (.exit 0)) (.seq (.block 1 (.seq (.region 8 aO8 false) (.seq (.region 9 aO9 false) (.region 10 UW false)))) (.region 11 aoO false)))),Item.inLoop Aw,Item.inBlock 0,Item.code Jz]by rw[<-aa_]];refine qy hD (rF qV hD aj sfA λR hR τ d=>?_);simp only[aO7,qa7];go_wp2;change rC _ _ _ _ _ _ _ _ _ _ _ v;refine qy hD (xu (b:=true) hD ax (Et hD (qy hD (Ac hD (qy hD (rF qV hD aj sfA λR hR τ d=>?_))))));have cC:=LA.qH (v:={v with tape:=τ,drawn:=d}) (hA.tape τ d) hV qK;simp only[aO8,qa8];go_wp2;change rC _ _ _ _ _ _ _ _ _ _ _ v;clear cC;refine qy hD (rF qV hD aj sfA λR hR τ d=>?_);have hr:=(hA.kx.sub Wy hu).row par;replace hr:ql {v with tape:=τ,drawn:=d} pc [.int .i64 ((K:Nat):Int),.int .i64 ((N:Nat):Int),.int .i64 ((C:Nat):Int)] 24:=hr;have c0:=hr.cell (i:=0) rfl;have c1:=hr.cell (i:=1) rfl;have c2:=hr.cell (i:=2) rfl;have hsz:({v with tape:=τ,drawn:=d}:ah).heap.size=v.heap.size:=rfl;have Qb:LA K N C m L bh g l v0 i ov (({v with tape:=τ,drawn:=d}:ah).alloc (.cells #[.int .i64 ((K:Nat):Int),.int .i64 ((N:Nat):Int),.int .i64 ((i:Nat):Int),.int .i64 ((C:Nat):Int),.slice bN m cN,.slice bZ m cZ,.slice (some ⟨dN i,0,none⟩) L L] 55)):=(hA.tape τ d).kept (UX ((aT _ _).alloc (az _) _));have xK:ql (({v with tape:=τ,drawn:=d}:ah).alloc (.cells #[.int .i64 ((K:Nat):Int),.int .i64 ((N:Nat):Int),.int .i64 ((i:Nat):Int),.int .i64 ((C:Nat):Int),.slice bN m cN,.slice bZ m cZ,.slice (some ⟨dN i,0,none⟩) L L] 55)) ({v with tape:=τ,drawn:=d}:ah).heap.size [.int .i64 ((K:Nat):Int),.int .i64 ((N:Nat):Int),.int .i64 ((i:Nat):Int),.int .i64 ((C:Nat):Int),.slice bN m cN,.slice bZ m cZ,.slice (some ⟨dN i,0,none⟩) L L] 55:=ql.made _ _ _;generalize({v with tape:=τ,drawn:=d}:ah)=v1 at*;simp only[aO9,qa9];go_wp2;generalize v1.alloc (.cells #[.int .i64 ((K:Nat):Int),.int .i64 ((N:Nat):Int),.int .i64 ((i:Nat):Int),.int .i64 ((C:Nat):Int),.slice bN m cN,.slice bZ m cZ,.slice (some ⟨dN i,0,none⟩) L L] 55)=v2 at*;rw[hsz]at xK;clear c0 c1 c2 hr hA;have P6:=Qb.kx.sub Wy hu;refine xH hD ?_;rw[agp];simp only[List.range,List.range.loop];refine qC qV hD (.slice (some ⟨bh,0,none⟩) N N) ku rfl aj (λz _=>a_) ?_;walk_nrm;refine qC qV hD (.int .i64 ((i:Nat):Int)) ku rfl aj (λz _=>a_) ?_;walk_nrm
  refine qC qV hD (.agg #[.int .i64 ((K:Nat):Int),.int .i64 ((N:Nat):Int),.int .i64 ((i:Nat):Int),.int .i64 ((C:Nat):Int),.slice bN m cN,.slice bZ m cZ,.slice (some ⟨dN i,0,none⟩) L L]) ku rfl aj (λz hz=>by
   have hrz:ql z v.heap.size [.int .i64 ((K:Nat):Int),.int .i64 ((N:Nat):Int),.int .i64 ((i:Nat):Int),.int .i64 ((C:Nat):Int),.slice bN m cN,.slice bZ m cZ,.slice (some ⟨dN i,0,none⟩) L L] 55:=by show z.heap[v.heap.size]?=_;rw[hz];exact xK
   have c0:=hrz.cell (i:=0) rfl;have c1:=hrz.cell (i:=1) rfl;have c2:=hrz.cell (i:=2) rfl;have c3:=hrz.cell (i:=3) rfl;have c4:=hrz.cell (i:=4) rfl;have c5:=hrz.cell (i:=5) rfl;have c6:=hrz.cell (i:=6) rfl;go_simp) ?_
  walk_nrm;refine qC qV hD (.slice (some ⟨gm,0,none⟩) (Zw m g) cm) ku rfl aj (λz _=>a_) ?_;walk_nrm;refine wo hD ku rfl aI func31 aj (c:=MN) aj (vs:=#[.agg #[.int .i64 ((K:Nat):Int),.int .i64 ((N:Nat):Int),.int .i64 ((i:Nat):Int),.int .i64 ((C:Nat):Int),.slice bN m cN,.slice bZ m cZ,.slice (some ⟨dN i,0,none⟩) L L],.slice (some ⟨gm,0,none⟩) (Zw m g) cm]) (n:=51) gI aj ?_
  have hml:(xq (qE m g) (qx m g) (qE m g).length).length<=300000:=by have:=BM (qE m g) hNm (qE m g).length (az _);have:=hFw.1;rw[Lj];omega
  have aoP:Hid (Zw m g=(xq (qE m g) (qx m g) (qE m g).length).length+8):=by show _=_;unfold Zw;rw[tu]
  refine agq hD K N i C ag ag ag ag ag (.slice bN m cN) (.slice bZ m cZ) (some ⟨dN i,0,none⟩) L L (zW K L l i) (yJ _ _ _ _) hL gm cm (Zw m g) _ rfl (by have:=aoP.out;omega) (by have:=aoP.out;omega) (Qb.lies hV xB qK) (P6.IU OD) (bG gml P6.1) (P6.tab tab) λy v3 hO3 hK3=>?_
  have alm:rO 0 v3 y (Jq K N C (qE m g) (qx m g) i (zW K L l i)):=by unfold Jq;rw[yJ];rw[aoP.out,iF]at hO3;exact hO3.asv (gY _)
  have Qn:=Qb.kept hK3;rw[vM ku];show rC _ _ _ _ _ _ _ _ _ _ _ _;walk_nrm;have hA4:=Qn.store qK alm;obtain⟨cur,yE,zU,_⟩:=Qn.sh;have P8:(i:Nat)<N:=qK;refine qC qV hD (.pointer (some ⟨bh,i,none⟩)) ku rfl aj (λz _=>a_) ?_;walk_nrm;obtain⟨xo,co,rfl⟩:=agi alm
  refine adx (a:=⟨bh,i,none⟩) (u:=.slice xo (Jq K N C (qE m g) (qx m g) i (zW K L l i)).length co) qV hD ku rfl aj rfl (λz hz=>by
   have e1:z.heap[bh]?=some (.cells cur 34):=by rw[hz];exact yE
   obtain⟨old,hold⟩:∃old,cur[i]?=some old:=⟨cur[i]' ag,mf ag⟩;have c0:z.cell? ⟨bh,i,none⟩=some old:=cell_of_block e1 hold;have f0:z.frozen? ⟨bh,i,none⟩=false:=by simp[World.frozen?,e1]
   go_simp) ?_
  refine tY hD (H9 hD (rF qV hD aj sfA λR hR τ d=>?_));simp only[aoO,aq5];go_wp2;refine RS hD (ih (i+1) _ _ _ ag ?_ (hA4.tape τ d));rw[Int.natCast_add];exact afd rfl
end
section
variable {X:Nat->Prop}{Y:Nat->aV}{D:Nat->ah->aH->Prop}{Stop:aG->ah->Prop}{v:ah}{cs:aP}{QB:aJ}
theorem aq8(hD:uU X D){pc bh Cc N:Nat}{vn vs vm x:ai}{T:aB}{rest:aA}(hT:TA pc vn vs vm (.slice (some ⟨bh,0,none⟩) N N) x T)(hL:Left x rest)
  (qJ:∀T,TL pc bh Cc N vn vs vm 0 T->rC prog X Y D Stop none [] 17 cs [.code Aw,.inLoop Aw,.inBlock 0,.code Jz] T v):
  ∀w,qQ X Y w v->r_ prog D Stop (G ((JA T rest).finish (.slice (some ⟨Cc,0,none⟩) N N)) cs) w:=by
 rw[show JA T rest=Dn none [] 17 T (.inRegion Fq (6::rest)::[.code (.block 0 (.loop Aw)),.code Jz])from rfl];rw[vM eG];show rC _ _ _ _ _ _ _ _ _ _ _ _;obtain⟨f,rfl⟩:=hT;walk_nrm;rcases hL with⟨rfl,rfl⟩|rfl|rfl
 .refine qC qV hD (.int .i64 ((N:Nat):Int)) eG rfl aj (λz _=>a_) ?_;walk_nrm;exact ayJ
 .refine qC qV hD (.int .i64 ((N:Nat):Int)) eG rfl aj (λz _=>a_) ?_;walk_nrm;refine qC qV hD (.int .i64 0) eG rfl aj (λz _=>a_) ?_;walk_nrm;exact ayJ
 .refine qC qV hD (.int .i64 0) eG rfl aj (λz _=>a_) ?_;walk_nrm;refine qC qV hD (.int .i64 ((N:Nat):Int)) eG rfl aj (λz _=>a_) ?_;walk_nrm;exact ayJ
theorem aoQ(hD:uU X D){T:aB}(hT:T28 T){vh:ai}
  (qJ:∀w,qQ X Y w v->r_ prog D Stop (G (QB.finish (.tuple #[vh,.int .i64 0])) cs) w):
  ∀w,qQ X Y w v->r_ prog D Stop (G ((FQ T).finish (.tuple #[vh,.bool true])) (QB::cs)) w:=by
 rw[show FQ T=Dn none [] 8 T (.inRegion enO [2,3,4,5,6,7]::[.code enD])from rfl];rw[vM jJ];show rC _ _ _ _ _ _ _ _ _ _ _ _;obtain⟨f,rfl⟩:=hT;walk_nrm;refine qC qV hD (.tuple #[vh,.bool true]) jJ rfl aj (λz _=>a_) ?_;walk_nrm;refine qC qV hD vh jJ rfl aj (λz _=>a_) ?_;walk_nrm;refine qC qV hD (.bool true) jJ rfl aj (λz _=>a_) ?_;walk_nrm;refine qC qV hD vh jJ rfl aj (λz _=>a_) ?_;walk_nrm;refine qC qV hD (.bool true) jJ rfl aj (λz _=>a_) ?_;walk_nrm;refine tY hD ?_;unfold enD enC vg;simp only[qA,Tryz.f8,aQ];refine qy hD (rF qV hD aj agr λR hR τ d=>?_);go_wp2;change rC _ _ _ _ _ _ _ _ _ _ _ v;refine qy hD (rF qV hD aj agr λR hR τ d=>?_);go_wp2;change rC _ _ _ _ _ _ _ _ _ _ _ v;refine Ju (a:=⟨_,[]⟩) hD rfl func8 (λτ d=>results_tmp2 (fn:=Tryz.f8) (t:=4) (u:=5) rfl _ _ _) ?_;exact qJ
end
end Go.Proofs.Y
namespace Go.Proofs.Y
open Go.Proofs.Tryz
open Go.RowKit Go.Deep Go.Lf Go.Conc Go.ConcN Go.Gh Go.Hp
open Go.ConcR (Payload WgAt wgBlock)
def uV(X:Nat->Prop)(l:Loc):Prop:=∃a:Addr,l=.cell a/\X a.block
theorem xX(X:Nat->Prop):uU X (DM (uV X)):=Zx λ_ h=>h
theorem PFc.tp{k n L:Nat}{l:ak}{bk bd P F ba C:Nat}{w:ah}(h:PFc k n L l bk bd P F ba C w)(τ:Nat->Question->Nat)(d:Nat):PFc k n L l bk bd P F ba C {w with tape:=τ,drawn:=d}:=⟨h.vk,h.vd,h.hP,h.hF,h.va,h.pay,h.new⟩
theorem PFc.alloc{k n L:Nat}{l:ak}{bk bd P F ba C:Nat}{w:ah}(h:PFc k n L l bk bd P F ba C w)(o:Obj):PFc k n L l bk bd P F ba C (w.alloc o):=by obtain⟨n1,n2,n3,n4,n5,n6⟩:=h.new;exact⟨uQ o h.vk,uQ o h.vd,λj hj=>uQ o (h.hP j hj),λi hi=>uQ o (h.hF i hi),uQ o h.va,(dI _ _ _ ag).trans h.pay,⟨n1,n2,n3,n4,n5,aS⟩⟩
theorem aiM{m:Nat}{g:Nat->qX}(h:∀i,i+1<m->Hp.lt (g i).k (g (i+1)).k=true):Srt m g:=λi hi=>by
 have h1:=h i hi;rcases Hp.Hw (g i).k (g (i+1)).k with⟨_,h2,_⟩|⟨_,h2,_⟩|⟨_,h2,_⟩
 .exact h2
 .rw[h1]at h2;cases h2
 .rw[h1]at h2;cases h2
structure FkD(K N C m:Nat)(f:Nat->qX)(d:qX->ak)(v0:ah)(g:Nat->qX)(T18 Xa T:aB)(rest:aA)(x vn vs vj:ai)(pc gm cm bh bk bd Pp Ff ba Cc:Nat)(wc u w2 v3:ah):Prop where
 t18:T28 T18
 ta:TA pc vn vs (.slice (some ⟨gm,0,none⟩) (Zw m g) cm) (.slice (some ⟨bh,0,none⟩) N N) x Xa
 lf:Left x rest
 tp:TPc bk bd ba T
 pf:PFc K N (ug K (rE (λj=>d (g j)) m).length) (rE (λj=>d (g j)) m) bk bd Pp Ff ba Cc v3
 low:∀b,b<w2.heap.size->b<Cc
 ge:w2.heap.size<=bk/\w2.heap.size<=bd/\w2.heap.size<=Pp/\w2.heap.size<=Ff
 fa:FA K N C m g (rE (λj=>d (g j)) m) pc gm bh vn vs vj wc u w2
 b3:sH w2.heap.size w2 v3
 vu:sH v0.heap.size v0 u
 re:qR m f g
 lt:∀i,i+1<m->Hp.lt (g i).k (g (i+1)).k=true
 nm:xk (qE m g)
 fw:MK (qE m g) (qx m g)
 jl:(rE (λj=>d (g j)) m).length<=65536
def AtF(X:Nat->Prop)(Y:Nat->aV)(K N C m:Nat)(f:Nat->qX)(d:qX->ak)(fr:aJ)(cs:aP)(v0:ah)(gr:aG)(W:ah):Prop:=
 ∃(g:Nat->qX)(T18 Xa T:aB)(rest:aA)(x vn vs vj:ai)(pc gm cm bh bk bd Pp Ff ba Cc:Nat)(wc u w2 v3:ah),
  gr=G ((base 29).at ⟨T,[]⟩ [.code gc3]) (JA Xa rest::FQ T18::fr::cs)/\qQ X Y W v3/\FkD K N C m f d v0 g T18 Xa T rest x vn vs vj pc gm cm bh bk bd Pp Ff ba Cc wc u w2 v3
theorem amd{X:Nat->Prop}{Y:Nat->aV}{D:Nat->ah->aH->Prop}(rM:uU X D){K N C m cap:Nat}{bo:aY}{f:Nat->qX}{d:qX->ak}{v:ah}{fr:aJ}{cs:aP}(hA:WX v bo m cap f d)(hP:AQ (K:Int) (N:Int) (C:Int))(hNf:uX m f)(hFw:∀g,qR m f g->Srt m g->MK (qE m g) (qx m g))(hT:Du v):
  uA prog X Y D (AtF X Y K N C m f d fr cs v) 8 (fr::cs) [.code vg] ⟨#[.slice bo m cap,.agg #[.int .i64 ((K:Nat):Int),.int .i64 ((N:Nat):Int),.int .i64 ((C:Nat):Int)]]++Array.replicate 26 undef,[]⟩ v:=by
 obtain⟨⟨q1,q2,q3⟩,q4,q5⟩:=id hP;refine ame rM hA hP hNf λT18 g bo2 L9 wc as9 hR qK hBc hbc=>?_
 have hS:=aiM qK;have hN:=(Yg hR hS).2 hNf;have hF:=hFw g hR hS
 have hD:∀i,i<m->zn wc (g i) (d (g i)):=λi hi=>by obtain⟨j,hj,e⟩:=hR.from hi;rw[e];exact(hA.dat j hj).AO hbc (az _)
 have Oq:(rE (λj=>d (g j)) m).length<=65536:=by rw[<-GH d g m (λi hi=>(hD i hi).1)];exact hF.2.1
 refine amf (d:=d) rM ag hA.hm hBc hD hN hF (hT.AO hbc hT.1) λXa rest x vn vs vj pc gm cm bh u w2 hTA hL hFA=>?_
 refine RU rM ag ag ag Oq hFA.dat λbk bd Pp Ff ba Cc T v3 hTP hPF uI Ws wI=>?_
 intro W hW;refine .stop λdd=>⟨g,T18,Xa,T,rest,x,vn,vs,vj,pc,gm,cm,bh,bk,bd,Pp,Ff,ba,Cc,wc,u,w2,v3,rfl,hW.at dd,⟨as9,hTA,hL,hTP,hPF,uI,Ws,hFA,wI,hbc.trans hFA.wu hbc.sN,hR,qK,hN,hF,Oq⟩⟩
theorem UY{D:Nat->ah->aH->Prop}(hD0:∀n w,n<=w.heap.size->D n w #[]){cs:aP}{bk bd ba:Nat}{T:aB}(W:ah)(hT:TPc bk bd ba T):
  ∃T',(∀E:F9,E.bk=bk->E.bd=bd->E.ba=ba->TB E W.heap.size T')/\∀Stop:aG->ah->Prop,(∀dd d',Stop (G ((base 29).at ⟨T',[]⟩ [.code Ar]) cs) (((W.at dd).alloc (wgBlock link.tWg 0 0)).at d'))->r_ prog D Stop (G ((base 29).at ⟨T,[]⟩ [.code gc3]) cs) W:=by
 obtain⟨f,rfl⟩:=hT;rw[aoR]
 have key:∀(Stop:aG->ah->Prop)(a:Act)(o:Oper)(u:ai),og3[0]?=some o->a.defers=[]->Region.wanted o (yielded og3 a.tmps)=true->(∀z:ah,z.heap.size=W.heap.size->(execOp a.eval o).run prog z=.ok (.value u) (z.alloc (wgBlock link.tWg 0 0)))->(∀z,listed prog 29 a o z=#[])->
   (∀dd d',Stop (G ((base 29).at (a.put o.dst u) [.code Ar]) cs) (((W.at dd).alloc (wgBlock link.tWg 0 0)).at d'))->r_ prog D Stop (G ((base 29).at a [.code (.seq (.region 3 og3 false) Ar)]) cs) W:=by
  intro Stop a o u ho ha hw hr hl uw;refine .next rfl λd1=>⟨_,_,_,aW,hD0 _ _ (az _),.next rfl λd2=>⟨_,_,_,dS,hD0 _ _ (az _),?_⟩⟩
  rw[ng3];simp only[List.range,List.range.loop];refine .next rfl λd3=>⟨_,_,_,stepG_value (b:=base _) ho hw oH (hr _ rfl),?_,.next rfl λd4=>⟨_,_,_,bf,hD0 _ _ (az _),.stop λd5=>uw d3 d5⟩⟩
  rw[show(base 29).fn=29 from rfl,hl];exact hD0 _ _ (by simp[World.at])
 refine⟨(#[f 0,f 1,f 2,.pointer (some ⟨bk,0,none⟩),f 4,f 5,f 6,.pointer (some ⟨bd,0,none⟩),.pointer (some ⟨ba,0,none⟩),f 9,f 10,f 11,f 12,f 13,f 14,f 15,f 16,f 17,f 18,f 19,f 20,f 21,f 22,f 23,f 24,f 25]:aB).setIfInBounds 9 (.pointer (some ⟨W.heap.size,0,none⟩)),λE h1 h2 h3=>?_,λStop uw=>?_⟩
 .subst h1 h2 h3;exact⟨λi=>if i=9 then undef else f i,rfl⟩
 .refine key Stop _ _ (.pointer (some ⟨W.heap.size,0,none⟩)) (by simp only[og3,qg3];rfl) rfl rfl (λz hz=>by rw[<-hz];go_simp;rfl) (λz=>listed_nil a_) ?_;exact uw
theorem Yh(k L:Nat)(l:ak)(bk bd P F ba:Nat)(h0:Nat->aV)(t:Nat):uh ((Ja k L l bk bd P F ba h0).res k L t)=(sJ (zW k L l t)).toArray:=by rw[aoS,aoT];unfold uh aiN;rw[jV];rfl
structure KpX(X:Nat->Prop)(w w':ah):Prop where
 os:w'.os=w.os
 output:w'.output=w.output
 size:w.heap.size<=w'.heap.size
 block:∀b,b<w.heap.size->¬X b->w'.heap[b]?=w.heap[b]?
theorem FT{Fin:Machine->Trace->Prop}(xE:∀m m' ops t,stepT prog m=(.next m',ops)->Fin m' (t++ops)->Fin m t){X:Nat->Prop}{Y:Nat->aV}{e:Nat}{gs:dE}{W v0:ah}{sl:Option (Nat×Nat)}{t:Trace}{q:Nat->Nat}{fr:aJ}{cs:aP}{K N C m cap:Nat}{bo:aY}{f:Nat->qX}{d:qX->ak}
  (h0:gs[0]?=some (G ((base 8).at ⟨#[.slice bo m cap,.agg #[.int .i64 ((K:Nat):Int),.int .i64 ((N:Nat):Int),.int .i64 ((C:Nat):Int)]]++Array.replicate 26 undef,[]⟩ [.code vg]) (fr::cs))) (hB:Ji prog (uV X) e gs W t q) (hs:qQ X Y W v0)
  (hA:WX v0 bo m cap f d) (hP:AQ (K:Int) (N:Int) (C:Int)) (hNf:uX m f) (hFw:∀g,qR m f g->Srt m g->MK (qE m g) (qx m g)) (hT:Du v0) (he:e+N<2147483648)
  (qJ:∀(g:Nat->qX)(bh Wg:Nat)(ov:Nat->ai)(Og:dE)(W':ah)(sl':Option (Nat×Nat))(t':Trace)(q':Nat->Nat)(Y':Nat->aV)(v':ah),qR m f g->Srt m g->Og[0]?=some (G (fr.finish (.tuple #[.slice (some ⟨bh,0,none⟩) N N,.int .i64 0])) cs)->
   Ji prog (uV λb=>X b\/b=Wg) (e+N) Og W' t' q'->qQ (λb=>X b\/b=Wg) Y' W' v'->W.heap.size<=Wg->Sub v0 v'->KpX X W W'->(∀i,i<N->v'.cell? ⟨bh,i,none⟩=some (ov i))->
   (∀i,i<N->rO 0 v' (ov i) (Jq K N C (qE m g) (qx m g) i (zW K (ug K (rE (λj=>d (g j)) m).length) (rE (λj=>d (g j)) m) i)))->Fin (crowd Og W' sl') t'):
  Fin (crowd gs W sl) t:=by
 obtain⟨⟨q1,q2,q3⟩,q4,q5⟩:=id hP;have xU:=hs;obtain⟨τ0,dd0,Ou⟩:=xU;have hX0:∀b,X b->b<v0.heap.size:=λb hb=>Ou.bound b (.inl hb)
 refine late (Fin:=Fin) (Shun:=uV X) (e:=e) xE (λ_ _ _ h=>h) (λgs1 a1 W1 sl1 t1 q1 h01 uw I8=>?_) (amd (xX X) (fr:=fr) (cs:=cs) (Y:=Y) hA hP hNf hFw hT W hs) W.drawn gs sl t q h0 hB;obtain⟨g,T18,Xa,T,rest,x,vn,vs,vj,pc,gm,cm,bh,bk,bd,Pp,Ff,ba,Cc,wc,u,w2,v3,rfl,hW1,hk⟩:=uw W1.drawn;replace hW1:qQ X Y W1 v3:=hW1;letI:rq:=⟨X⟩;obtain⟨n1,n2,n3,n4,n5,n6⟩:=hk.pf.new;have ahQ:W1.heap.size=v3.heap.size:=by obtain⟨_,_,h⟩:=hW1;exact h.size
 have hvu:=hk.vu.sN;have huw:u.heap.size<=w2.heap.size:=hk.fa.AO.sN;have Np:∀b,X b->b<w2.heap.size:=λb hb=>by have:=hX0 b hb;omega
 have aiO:Ji prog (H_ W1.heap.size) e gs1 W1 t1 q1:=I8.more (λl h=>.inr h) (λl h=>h.elim (λ⟨a,ea,ya⟩=>.inr ⟨a,ea,fQ ya.symm⟩) .inl);obtain⟨T',hTW,hG⟩:=UY (D:=DM (H_ W1.heap.size)) (λn w h=>⟨h,ax⟩) (cs:=JA Xa rest::FQ T18::fr::cs) W1 hk.tp;refine late (Fin:=Fin) (Shun:=H_ W1.heap.size) (e:=e) xE (λ_ _ _ h=>h) (λgs2 a2 W2 sl2 t2 q2 h02 aln Ap=>?_) (hG (λgr w=>gr=G ((base 29).at ⟨T',[]⟩ [.code Ar]) (JA Xa rest::FQ T18::fr::cs)/\∃dd d',w=((W1.at dd).alloc (wgBlock link.tWg 0 0)).at d') (λdd d'=>⟨rfl,dd,d',rfl⟩)) W1.drawn gs1 sl1 t1 q1 h01 aiO;obtain⟨rfl,dd,d',Mc⟩:=aln W2.drawn;replace Mc:W2=((W1.at dd).alloc (wgBlock link.tWg 0 0)).at d':=Mc;generalize hWg:W1.heap.size=Wg at*
 have hS2:qQ X Y W2 (v3.alloc (wgBlock link.tWg 0 0)):=by exact ayD
 have wH:W2.heap.size=Wg+1:=awN
 have Ue:W2.heap[Wg]?=some (wgBlock link.tWg 0 0):=by exact ayE
 have hl2:∀b,b<Wg->W2.heap[b]?=W1.heap[b]?:=λb hb=>by exact ayV
 obtain⟨τ2,dd2,yY⟩:=hS2;have hPF:=(hk.pf.alloc (wgBlock link.tWg 0 0)).tp τ2 dd2;have wI:sH w2.heap.size w2 {v3.alloc (wgBlock link.tWg 0 0)with tape:=τ2,drawn:=dd2}:=(hk.b3.trans (sH.of ((aT v3.heap.size v3).alloc (az _) _)) hk.b3.sN).tp τ2 dd2;generalize({v3.alloc (wgBlock link.tWg 0 0)with tape:=τ2,drawn:=dd2}:ah)=v4 at yY hPF wI;letI:Payload:=⟨34⟩;letI:yO:=⟨W2.output,W2.os⟩
 have hLb:(ug K (rE (λj=>d (g j)) m).length)<=65536:=by have:=D5 (k:=K) ag (rE (λj=>d (g j)) m).length;have:=hk.jl;omega
 have aiP:QA (Ja K (ug K (rE (λj=>d (g j)) m).length) (rE (λj=>d (g j)) m) bk bd Pp Ff ba (λb=>W2.heap[b]?)) K N (ug K (rE (λj=>d (g j)) m).length):=afe ag ag ag;have hSF:=Yi (lw:=w2.heap.size) rfl Np Np hk.ge yY hPF wH ag;have hSp:=Ye (cs:=JA Xa rest::FQ T18::fr::cs) aiP (hTW _ rfl rfl rfl) hSF;refine Zy (Fin:=Fin) (ty:=link.tWg) xE h02 Ap (λb hb=>?_) (dV _) ag ag ag Ue hSF.pay hSp ⟨λ_ _ _ _ r h=>W_.rely h r,λ_ _ _ _ r h=>KC.rely h r⟩ he rfl rfl (λids gs3 a3 W3 lb sl3 t3 q3 h03 ho hos hwk hK hp Ce Ov=>?_)
 .have:=Np b hb;have:=hk.low b this;omega
 obtain⟨T1,s0,j,ops,rfl,hTS,OT,BL⟩:=hK;have UT:∀b,b<Wg->b≠Cc->W3.heap[b]?=W2.heap[b]?:=λb hb hc=>OT.low.UT b ag ag hc
 have hXC:∀b,X b->b<Wg/\b≠Cc:=λb hb=>by have h1:=Np b hb;have:=hk.low b h1;omega
 obtain⟨Y',v',xI,WA⟩:=Uj W3 (λb=>X b\/b=Wg) (λb hb=>by
  rcases hb with hb|rfl
  .exact ayQ
  .obtain⟨st,sm,hw⟩:=hwk;exact⟨_,_,hw⟩)
 obtain⟨⟨dN,hd⟩,hcell,hba⟩:=aff yY wH ag wI hk.low hPF WA Np OT BL Ce
 have Qc:∀{b:Nat}{c:aB}{ty:aF}{fz:Nat×Nat},w2.heap[b]?=some (.cells c ty fz)->v'.heap[b]?=some (.cells c ty fz):=λ{b c ty fz} h=>by
  have h1:b<w2.heap.size:=(dh.1 h).1;have h2:=hk.low b h1;have h3:v4.heap[b]?=some (.cells c ty fz):=(wI.blk h1).trans h;by_cases hx:X b
  .exact ayU
  .exact ayS
 have e1:v'.heap.size=W3.heap.size:=xI.size.symm;have e2:Wg+1<=W3.heap.size:=bu OT.sb.2.1 OT.sb.2.2;have aq9:w2.heap.size<=v3.heap.size:=hk.b3.sN;have hus:=hk.fa.us;have hbh:bh<w2.heap.size:=(dh.1 hk.fa.sh).1
 have Wy:Sub u v':=⟨ag,λb c ty fz hx=>by have hxl:=(dh.1 hx).1;exact Qc ((hk.fa.AO.blk ag).trans hx)⟩
 have hVA:VA K N (ug K (rE (λj=>d (g j)) m).length) Cc bh dN (rE (λj=>d (g j)) m) v':=⟨λt ht=>(hd t ht).1,λt ht=>axX,by have:=hk.low bh hbh;omega⟩;obtain⟨bN,cN,rfl,hcN,_⟩:=hk.fa.nm;obtain⟨bZ,cZ,rfl,hcZ,_⟩:=hk.fa.sz;have hTA:=hk.ta;rw[wL,uC]at hTA;rw[FU,xm]at hTA;have hD':uU (λb=>X b\/b=Wg) (DM (H_ Wg)):=Zx λl h=>h.elim (λ⟨a,ea,ya⟩=>⟨a,ea,.inr ya⟩) (λ⟨a,ea,ya⟩=>⟨a,ea,.inl ya⟩)
 refine late (Fin:=Fin) (Shun:=H_ Wg) (e:=e+N) (Stop:=λgr w=>∃v5 ov,gr=G (fr.finish (.tuple #[.slice (some ⟨bh,0,none⟩) N N,.int .i64 0])) cs/\qQ (λb=>X b\/b=Wg) Y' w v5/\LA K N C m (ug K (rE (λj=>d (g j)) m).length) bh g (rE (λj=>d (g j)) m) v' N ov v5) xE (λ_ _ _ h=>h) (λWp a4 W4 XQ t4 q4 h04 aiQ IM=>?_) (anU (X:=λb=>X b\/b=Wg) (Y:=Y') hD' hTS hba (λτ dd w1 BB=>?_) W3 xI.t) W3.drawn gs3 sl3 t3 q3 h03 Ov
 .obtain⟨v5,ov,rfl,DY,hLA⟩:=aiQ W4.drawn;replace DY:qQ (λb=>X b\/b=Wg) Y' W4 v5:=DY;have MO:=hLA.kx.sub Wy ag;have aq_:Sub v0 u:=⟨hk.vu.sN,λb c ty fz hx=>(hk.vu.blk ((dh.1 hx).1)).trans hx⟩;obtain⟨cur,hc1,Wq,hc3⟩:=hLA.sh;refine qJ g bh Wg ov Wp W4 XQ t4 q4 Y' v5 hk.re (aiM hk.lt) h04 (IM.more (λl h=>h.elim (λ⟨a,ea,ya⟩=>⟨a,ea,.inr ya⟩) (λ⟨a,ea,ya⟩=>⟨a,ea,.inl ya⟩)) (λl ⟨a,ea,ya⟩=>.inl (ya.elim (λy=>.inr ⟨a,ea,y⟩) (λy=>.inl ⟨a,ea,y⟩)))) DY ?_ ⟨bu aq_.1 MO.1,λb c ty fz hx=>MO.2 b c ty fz (aq_.2 b c ty fz hx)⟩ ?_ (λi hi=>cell_of_block hc1 (hc3 i hi)) hLA.own
  .exact ayH
  .have yz:W.heap.size=v0.heap.size:=Ou.size;obtain⟨τ5,d5,OU⟩:=DY;obtain⟨τ1,d1,WB⟩:=hW1;have z5:W4.heap.size=v5.heap.size:=OU.size;have zk:=hLA.kx.size;refine⟨?_,?_,ag,λb hb hx=>?_⟩
   .have o1:W4.os=v5.os:=OU.os;have o2:=hLA.kx.os;have o3:W3.os=v'.os:=xI.os;have o4:W3.os=W2.os:=hos;have o5:W2.os=W1.os:=mZ;have o6:W1.os=v3.os:=WB.os;have o7:v3.os=w2.os:=hk.b3.os;have o8:w2.os=u.os:=hk.fa.AO.os;have o9:u.os=v0.os:=hk.vu.os;have o10:W.os=v0.os:=Ou.os;rw[o1,o2,<-o3,o4,o5,o6,o7,o8,o9,o10]
   .have o1:W4.output=v5.output:=OU.out;have o2:=hLA.kx.output;have o3:W3.output=v'.output:=xI.out;have o4:W3.output=W2.output:=ho;have o5:W2.output=W1.output:=mZ;have o6:W1.output=v3.output:=WB.out;have o7:v3.output=w2.output:=hk.b3.output;have o8:w2.output=u.output:=hk.fa.AO.output;have o9:u.output=v0.output:=hk.vu.output;have o10:W.output=v0.output:=Ou.out;rw[o1,o2,<-o3,o4,o5,o6,o7,o8,o9,o10]
   .have hbC:=hk.low b ag;have a1:W4.heap[b]?=W3.heap[b]?:=xZ.agree xI OU (λhh=>hh.elim hx ag) (hLA.kx.block b ag ag);have a2:=UT b ag ag;have a3:=hl2 b ag;have a4:W1.heap[b]?=W.heap[b]?:=xZ.agree Ou WB hx ((hk.b3.blk ag).trans ((hk.fa.AO.blk ag).trans (hk.vu.blk ag)));rw[a1,a2,a3,a4]
 .refine aq8 (v:=v') hD' hTA hk.lf (λT5 hT5=>?_) w1 BB;refine aiL (v0:=v') (u:=u) (dN:=dN) (l:=(rE (λj=>d (g j)) m)) (L:=(ug K (rE (λj=>d (g j)) m).length)) hD' ag ag hLb hk.nm hk.fw hk.fa.par hk.fa.OD hk.fa.gml hk.fa.tab ag Wy hVA ⟨_,Qc hk.fa.sh⟩ (λv2 ov hLA=>?_) N 0 T5 v' (λ_=>undef) ag hT5 ⟨KX.refl _ _,⟨_,Qc hk.fa.sh,iO _ _,λt ht=>absurd ht ag⟩,λt ht=>absurd ht ag⟩;exact aoQ hD' hk.t18 (λw hw=>.stop λd6=>⟨v2,ov,rfl,hw.at d6,hLA⟩)
#print axioms FT
end Go.Proofs.Y
namespace Go.Proofs.Y
open Go.Proofs.Tryz
open Go.Conc Go.ConcN Go.RowKit Go.Gh Go.Conc.Lib Go.ConcR.Gen Go.ConcN.Gen
open Go.ConcR (Payload)
theorem n13:o13.size=3:=aj
section
variable [Payload][rq]{Wg C k B L:Nat}{E:Env}
def TW(E:Env)(Wg k:Nat)(T:aB):Prop:=∃f:Nat->ai,T=#[f 0,f 1,f 2,f 3,f 4,.slice (some ⟨E.bp,E.op,none⟩) k E.cp,f 6,.pointer (some ⟨E.bd,0,none⟩),f 8,f 9,.pointer (some ⟨E.bv,0,none⟩),.pointer (some ⟨E.ba,0,none⟩),.pointer (some ⟨Wg,0,none⟩),f 13,f 14,f 15,f 16,f 17,f 18,f 19,f 20,f 21,f 22,f 23,f 24,f 25,f 26,f 27,f 28,f 29,f 30,f 31,f 32,f 33,f 34,f 35,f 36,f 37,f 38,f 39,f 40,f 41,f 42,f 43,f 44,f 45,f 46,f 47,f 48,f 49,f 50,f 51,f 52,f 53,f 54,f 55,f 56,f 57,f 58,f 59,f 60,f 61,f 62,f 63,f 64,f 65,f 66,f 67,f 68]
theorem aiR(hE:RQ E k L){cs:aP}{T:aB}{w:ah}{s0:Nat}(hT:TW E Wg k T)(hF:SF Wg C k B L E s0 0 w):
  Sp prog link.tWg Wg C k B (E.D8 k) (W_ C L (E.res L)) (KR Wg C k B L E cs) (UZ E 0 k) [] (G ((base 67).at ⟨T,[]⟩ [.code zF]) cs) w:=by
 obtain⟨m,hm⟩:=spj (Wg:=Wg) (C:=C) (k:=k) (B:=B) (L:=L) (E:=E) hE (cs:=cs) k 0 ag;rw[aiI];co_apply Exists.intro;obtain⟨f,rfl⟩:=hT;rw[aiH]
 (co_apply aO rfl;intro _ qL;replace hF:=SF.rely hF qL;clear qL;rw[aW];simp only[bF];refine⟨aZ qj _,?_⟩)
 (co_apply aO rfl;intro _ qL;replace hF:=SF.rely hF qL;clear qL;rw[aW];simp only[bF];refine⟨aZ qj _,?_⟩)
 (co_apply aO rfl;intro _ qL;replace hF:=SF.rely hF qL;clear qL;rw[dS,n13];simp only[bF,List.range,List.range.loop];refine⟨aZ qj _,?_⟩;simp only[o13,q13])
 (co_apply aO rfl;intro _ qL;replace hF:=SF.rely hF qL;clear qL
  refine goes_oper_k rfl rfl aC (λKq uK=>?_)
  (skip)
  go_simp
  try(unfold stored;go_simp)
  refine uK _ _ ⟨?_,?_⟩
  ·(co_quiet qj)
  clear uK Kq
  try walk_nrm)
 (co_apply aO rfl;intro _ qL;replace hF:=SF.rely hF qL;clear qL
  refine goes_oper_k rfl rfl aC (λKq uK=>?_)
  (skip)
  go_simp
  try(unfold stored;go_simp)
  refine uK _ _ ⟨?_,?_⟩
  ·(co_quiet qj)
  clear uK Kq
  try walk_nrm)
 (co_apply aO rfl;intro _ qL;replace hF:=SF.rely hF qL;clear qL
  refine goes_oper_k rfl rfl aC (λKq uK=>?_)
  (skip)
  go_simp
  try(unfold stored;go_simp)
  refine uK _ _ ⟨?_,?_⟩
  ·(co_quiet qj)
  clear uK Kq
  try walk_nrm)
 (co_apply aO rfl;intro _ qL;replace hF:=SF.rely hF qL;clear qL;rw[bf];simp only[bF];refine⟨aZ qj _,?_⟩)
 (co_apply aO rfl;intro _ qL;replace hF:=SF.rely hF qL;clear qL;rw[lG];simp only[bF];refine⟨aZ qj _,?_⟩)
 (co_apply aO rfl;intro _ qL;replace hF:=SF.rely hF qL;clear qL;rw[stepG_loop];simp only[bF];refine⟨aZ qj _,?_⟩)
 exact hm _ _ [] s0 ⟨_,_,_,_,_,_,_,_,_,_,_,_,_,_,_,_,_,_,_,_,_,_,_,_,_,_,_,_,_,_,_,_,_,_,_,_,_,_,_,_,_,_,_,_,_,_,_,_,_,_,_,_,_,_,_,_,_,_,_,_,_,_,rfl⟩ hF (λx=>⟨λh=>kX,λh=>absurd h.2 ag⟩)
