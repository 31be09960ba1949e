import Derived.Test.YtlghjjennhpjeaaGreatDoorDxE
set_option maxHeartbeats 8000000
set_option maxRecDepth 100000
namespace Go.Proofs.Y
open Go.Proofs.Tryz
open Go.RowKit Go.Deep Go.Lf Go.Conc Go.Hp
noncomputable def AL:Code:=Tryz.f3.body.getD .skip
noncomputable def dz3:Code:=rX (rX (rX AL))
noncomputable def dz4:Code:=rX dz3
noncomputable def qs6:{y:Array Oper//y=zt (sZ dz3)}:=⟨_,by(simp only[dz3,AL,sZ,rX,zt,Tryz.f3,bf];rfl)⟩
noncomputable def sP6:Array Oper:=qs6.1
theorem aoH:dz3=.seq (.region 6 sP6 false) dz4:=ak
theorem aiY:sP6.size=9:=ak
theorem aoI:dz4=.seq (sZ dz4) .ret:=ak
theorem al4:∃fn,prog.funcs[3]?=some fn:=⟨_,func3⟩
theorem agp:AL=.seq (sZ AL) (.seq (sZ (rX AL)) (.seq (sZ (rX (rX AL))) dz3)):=ak
noncomputable def H9:Code:=Tryz.f4.body.getD .skip
noncomputable def dy1:Code:=rX H9
noncomputable def dy2:Code:=rX dy1
noncomputable def qo0:{y:Array Oper//y=zt (sZ H9)}:=⟨_,by(simp only[H9,sZ,zt,Tryz.f4,bf];rfl)⟩
noncomputable def oP0:Array Oper:=qo0.1
theorem aiZ:oP0.size=3:=ak
noncomputable def qo1:{y:Array Oper//y=zt (sZ dy1)}:=⟨_,by(simp only[dy1,H9,sZ,rX,zt,Tryz.f4,bf];rfl)⟩
noncomputable def oP1:Array Oper:=qo1.1
theorem aoJ:dy1=.seq (.region 1 oP1 false) dy2:=ak
theorem ai0:oP1.size=9:=ak
theorem agq:H9=.seq (.region 0 oP0 false) dy1:=ak
def Tsd(f:Nat->ai)(a3 a7:ai):aH:=#[f 0,f 1,f 2,a3,f 4,f 5,f 6,a7,f 8,f 9,f 10,f 11,f 12,f 13,f 14,f 15,f 16,f 17,f 18,f 19,f 20,f 21,f 22,f 23,f 24,f 25,f 26,f 27,f 28]
abbrev aqB(T:aH):aH:=Tsd (λi=>T.getD i undef) (T.getD 3 undef) (T.getD 7 undef)
theorem adg{T:aH}(h:T=aqB T):T=aqB T:=h
def Tod(f:Nat->ai)(a0 a5 a6 a7:ai):aH:=#[a0,f 1,f 2,f 3,f 4,a5,a6,a7,f 8,f 9,f 10,f 11,f 12,f 13,f 14,f 15,f 16,f 17,f 18,f 19,f 20,f 21,f 22,f 23,f 24,f 25,f 26,f 27,f 28,f 29,f 30,f 31,f 32,f 33,f 34,f 35,f 36,f 37,f 38,f 39,f 40,f 41,f 42,f 43,f 44,f 45,f 46,f 47,f 48,f 49,f 50,f 51,f 52,f 53,f 54,f 55,f 56,f 57,f 58,f 59]
abbrev aqC(T:aH):aH:=Tod (λi=>T.getD i undef) (T.getD 0 undef) (T.getD 5 undef) (T.getD 6 undef) (T.getD 7 undef)
theorem ai1{T:aH}(h:T=aqC T):T=aqC T:=h
def ai2(vl:ai)(T:aH):Prop:=∃f:Nat->ai,T=Tsd f vl (f 7)
def aqD(y:ai)(T:aH):Prop:=∃f:Nat->ai,T=Tsd f (f 3) y
def aoK(vl:ai)(T:aH):Prop:=∃f:Nat->ai,T=Tod f vl (f 5) (f 6) (f 7)
def aqE(vl y1 y2 y3:ai)(T:aH):Prop:=∃f:Nat->ai,T=Tod f vl y1 y2 y3
noncomputable def ai3(T:aH):aS:=(base 3).at ⟨T,[]⟩ (.inRegion sP6 [1,2,3,4,5,6,7,8]::[.code dz4])
noncomputable def ai4(T:aH):aS:=(base 4).at ⟨T,[]⟩ (.inRegion oP1 [1,2,3,4,5,6,7,8]::[.code dy2])
section
variable {X:Nat->Prop}{Y:Nat->aZ}{D:Nat->ah->aN->Prop}{Stop:aI->ah->Prop}{w:ah}{cs:aT}{T:aH}{vl y1 y2 y3:ai}
theorem al5(uk:zN X D)(hT:ai2 vl T)
  (qZ:∀T',ai2 vl T'->uN prog X Y D Stop 4 [ai3 T'] [.code H9] ⟨#[vl]++Array.replicate 59 undef,[]⟩ w):
  uN prog X Y D Stop 3 [] [.code dz3] ⟨T,[]⟩ w:=by
 obtain⟨g,rfl⟩:=hT;unfold Tsd;rw[aoH];refine Az uk rfl (Fj uk ?_);rw[aiY];simp only[List.range,List.range.loop];refine rf rC uk (vl) jq rfl ak (λz _=>bV) ?_;walk_nrm;refine DT uk jq rfl aF func4 ak (c:=H9) ak (vs:=#[vl]) (n:=59) jF ak ?_;unfold ai3 at qZ;exact qZ _ ⟨_,adg rfl⟩
theorem al6(uk:zN X D)
  (qZ:∀T',aoK vl T'->uN prog X Y D Stop 5 (ai4 T'::cs) [.code yj] ⟨#[vl]++Array.replicate 55 undef,[]⟩ w):
  uN prog X Y D Stop 4 cs [.code H9] ⟨#[vl]++Array.replicate 59 undef,[]⟩ w:=by
 rw[agq];simp only[eU,eQ,eH,eP,dw,df];refine FN.1 (yB uk (JB uk ?_));rw[aiZ];simp only[List.range,List.range.loop];refine rf rC uk (.slice none 0 0) au_ rfl ak (λz _=>bV) ?_;walk_nrm;refine rf rC uk (.slice none 0 0) au_ rfl ak (λz _=>bV) ?_;walk_nrm;refine rf rC uk (.bool false) au_ rfl ak (λz _=>bV) ?_;walk_nrm;refine xh uk ?_;rw[aoJ];refine yB uk (JB uk ?_);rw[ai0];simp only[List.range,List.range.loop];refine rf rC uk (vl) jr rfl ak (λz _=>bV) ?_;walk_nrm;refine DT uk jr rfl aF func5 ak (c:=yj) ak (vs:=#[vl]) (n:=55) jF ak ?_;unfold ai4 at qZ;exact qZ _ ⟨_,ai1 rfl⟩
theorem al7(uk:zN X D)(hT:aoK vl T)
  (qZ:∀T',aqE vl y1 y2 y3 T'->yu prog X Y D Stop none [] 4 cs [.code dy2] T' w):
  ∀z,rG X Y z w->sU prog D Stop (G ((ai4 T).finish (.tuple #[y1,y2,y3])) cs) z:=by
 rw[show ai4 T=Dn none [] 4 T (.inRegion oP1 [1,2,3,4,5,6,7,8]::[.code dy2])from rfl];rw[DU jr];show yu _ _ _ _ _ _ _ _ _ _ _ _;obtain⟨g,rfl⟩:=hT;unfold Tod;walk_nrm;refine rf rC uk (.tuple #[y1,y2,y3]) jr rfl ak (λz _=>bV) ?_;walk_nrm;refine rf rC uk (y1) jr rfl ak (λz _=>bV) ?_;walk_nrm;refine rf rC uk (y2) jr rfl ak (λz _=>bV) ?_;walk_nrm;refine rf rC uk (y3) jr rfl ak (λz _=>bV) ?_;walk_nrm;refine rf rC uk (y1) jr rfl ak (λz _=>bV) ?_;walk_nrm;refine rf rC uk (y2) jr rfl ak (λz _=>bV) ?_;walk_nrm;refine rf rC uk (y3) jr rfl ak (λz _=>bV) ?_;walk_nrm;refine xh uk ?_;exact qZ _ ⟨_,ai1 rfl⟩
theorem al8(uk:zN X D)(hT:ai2 vl T)
  (qZ:∀T',aqD y3 T'->yu prog X Y D Stop none [] 3 [] [.code dz4] T' w):
  ∀z,rG X Y z w->sU prog D Stop (G ((ai3 T).finish (.tuple #[y1,y2,y3])) []) z:=by
 rw[show ai3 T=Dn none [] 3 T (.inRegion sP6 [1,2,3,4,5,6,7,8]::[.code dz4])from rfl];rw[DU jq];show yu _ _ _ _ _ _ _ _ _ _ _ _;obtain⟨g,rfl⟩:=hT;unfold Tsd;walk_nrm;refine rf rC uk (.tuple #[y1,y2,y3]) jq rfl ak (λz _=>bV) ?_;walk_nrm;refine rf rC uk (y1) jq rfl ak (λz _=>bV) ?_;walk_nrm;refine rf rC uk (y2) jq rfl ak (λz _=>bV) ?_;walk_nrm;refine rf rC uk (y3) jq rfl ak (λz _=>bV) ?_;walk_nrm;refine rf rC uk (y1) jq rfl ak (λz _=>bV) ?_;walk_nrm;refine rf rC uk (y2) jq rfl ak (λz _=>bV) ?_;walk_nrm;refine rf rC uk (y3) jq rfl ak (λz _=>bV) ?_;walk_nrm;refine xh uk ?_;exact qZ _ ⟨_,adg rfl⟩
end
end Go.Proofs.Y
namespace Go.Proofs.Y
open Go.Proofs.Tryz
open Go.RowKit Go.Deep
theorem adh(s:ByteArray)(w:ah):∃cap w',(convert 9 24 (.string s)).run prog w=.ok (.slice (some ⟨w.heap.size,0,none⟩) s.data.toList.length cap) w'/\Below w.heap.size w w'/\w'.heap.size=w.heap.size+1/\s.data.toList.length<=cap/\xM w' w.heap.size 0 s.data.toList:=by
 have es:s.data.toList.length=s.size:=Array.length_toList;rw[es];refine⟨_,_,run_bytes_of_string w _ _ 5 s underlying9 underlying24 underlying5,((aO _ _).drew).alloc (ay _) _,?_,grownCap_ge _ _ _ _,?_⟩
 .simp
 .intro i hi;rw[es]at hi;have h:=World.cell?_alloc_mark w.drew (bytesRow s (grownCap w s.size 0 5)) 5 ((bytesRow s (grownCap w s.size 0 5)).size,(bytesRow s (grownCap w s.size 0 5)).size+1) i;rw[bJ];refine nM h ?_;unfold bytesRow;rw[av9 lg];simp[sV,hi]
end Go.Proofs.Y
namespace Go.Proofs.Y
open Go.Proofs.Tryz
open Go.RowKit Go.Deep Go.Lf Go.Conc Go.Hp
structure LJ(w:ah)(bs:Nat->aj)(j:Nat)(vi:Nat->ai)(vl:ai)(wr:ah):Prop where
 xG:tX w.heap.size w wr
 row:wr.ownsRow w.heap.size 24 1 vl j ((List.range j).map vi)
 dat:∀i,i<j->∃g c,vi i=.slice (some ⟨g,0,none⟩) (bs i).length c/\(bs i).length<=c/\g<wr.heap.size/\xM wr g 0 (bs i)/\vl.ownBlock≠some g
theorem LJ.more{w:ah}{bs:Nat->aj}{j:Nat}{vi:Nat->ai}{vl v':ai}{wr w1 w2:ah}{o:Obj}{c:Nat}(h:LJ w bs j vi vl wr)(hb:Below wr.heap.size wr w1)(hs:w1.heap.size=wr.heap.size+1)(hc:(bs j).length<=c)(hy:xM w1 wr.heap.size 0 (bs j))(hg:(w1.alloc o).grownBy w2 vl.ownBlock)
  (ho:w2.ownsRow w.heap.size 24 1 v' (j+1) ((List.range j).map vi++[.slice (some ⟨wr.heap.size,0,none⟩) (bs j).length c])) (hk:v'.ownBlock=vl.ownBlock\/v'.ownBlock=some (w1.alloc o).heap.size):
  LJ w bs (j+1) (λi=>if i=j then .slice (some ⟨wr.heap.size,0,none⟩) (bs j).length c else vi i) v' w2:=by
 have s1:=h.xG.uo;have s3:(w1.alloc o).heap.size=w1.heap.size+1:=aA;have hz:=hg.size;have qB:∀g,vl.ownBlock=some g->w.heap.size<=g/\g<wr.heap.size:=λg e=>h.row.lt g e
 have old:∀b,b<w1.heap.size->vl.ownBlock≠some b->w2.heap[b]?=w1.heap[b]?:=λb h1 h2=>by rw[hg.block b ag (λe=>h2 e.symm),dI _ _ b h1]
 have LV:∀{g:Nat}{l:aj},g<w1.heap.size->vl.ownBlock≠some g->xM w1 g 0 l->xM w2 g 0 l:=λ{g l} h1 h2 hB i hi=>(oH (a:=⟨g,0+i,none⟩) (old g h1 h2)).trans (hB i hi)
 have apt:∀g,g<w1.heap.size->vl.ownBlock≠some g->v'.ownBlock≠some g:=λg h1 h2 e=>by
  rcases hk with hk|hk
  .exact h2 (hk.symm.trans e)
  .rw[hk]at e;cases e;omega
 refine⟨h.xG.trans (tX.of ((((aO _ _).trans (hb.mono s1)).alloc ag o).grown hg ag λk e=>(qB k e).1)) (ay _),?_,λi hi=>?_⟩
 .rw[dP,iP,g_ (g:=vi) λi hi=>by rw[au (by have:=jM.1 hi;omega)]];simp only[je,kU,aY];exact ho
 .by_cases e:i=j
  .subst e;have hn:vl.ownBlock≠some wr.heap.size:=λe=>by have:=qB _ e;omega
   exact⟨_,c,ax rfl,hc,ag,LV ag hn hy,apt _ ag hn⟩
  .obtain⟨g,c',h1,h2,h3,h4,h5⟩:=h.dat i ag;refine⟨g,c',(au e).trans h1,h2,ag,LV ag h5 λt ht=>?_,apt g ag h5⟩;exact(hb.cell (p:=⟨g,0+t,none⟩) h3).trans (h4 t ht)
theorem LJ.slc{w:ah}{bs:Nat->aj}{n:Nat}{vi:Nat->ai}{vl:ai}{wr:ah}(h:LJ w bs n vi vl wr)(hl:∀i,i<n->(bs i).length<=1048576):∃bi cap,vl=.slice bi n cap/\SlC wr bi n bs vi:=by
 obtain⟨bi,cap,e⟩:=yS h.row;subst e;have hL:=yT h.row;refine⟨bi,cap,rfl,⟨λhn=>?_,λi hi=>?_⟩,λi hi=>?_⟩
 .obtain⟨g,c,e,_,_⟩:=h.row.form hn;cases e;refine⟨g,0,rfl,λi hi=>?_⟩;obtain⟨b',o',e',hc⟩:=hL.get (show((List.range n).map vi)[i]?=some (vi i)by simp[hi]);cases e';exact hc
 .obtain⟨g,c,e,h2,h3,h4,_⟩:=h.dat i hi;refine⟨⟨some ⟨g,0,none⟩,c,by rw[e,ru],by rw[ru];exact h2,λj u hj=>⟨g,0,rfl,?_⟩⟩,.inr ⟨g,0,c,e,h2⟩,by have:=hl i hi;omega⟩;obtain⟨h5,rfl⟩:=JE hj;exact h4 j h5
 .obtain⟨g,c,e,h2,h3,_⟩:=h.dat i hi;exact⟨g,c,e,h2,h3,hl i hi⟩
section
variable {X:Nat->Prop}{Y:Nat->aZ}{D:Nat->ah->aN->Prop}{Stop:aI->ah->Prop}{w:ah}
theorem ai5(uk:zN X D){bo:aW}{cap:Nat}{bl:List (aj)}(hL:qP w (.slice bo bl.length cap) (uU bl))(hn:bl.length<=1048576)
  (qZ:∀(T:aH)(vl:ai)(vi:Nat->ai)(w':ah),ai2 vl T->LJ w (λi=>bl.getD i []) bl.length vi vl w'->uN prog X Y D Stop 3 [] [.code dz3] ⟨T,[]⟩ w'):
  uN prog X Y D Stop 3 [] [.code AL] ⟨#[.slice bo bl.length cap]++Array.replicate 28 undef,[]⟩ w:=by
 rw[agp];simp only[eU,eQ,eH,eP,dw,df];refine rV rC uk ak rfl al4 λR hR τ d'=>?_
 have xG:tX w.heap.size w {w with tape:=τ,drawn:=d'}:=(tX.refl _ w).tp τ d';generalize({w with tape:=τ,drawn:=d'}:ah)=wA at xG⊢;simp only[sZ,AL,Tryz.f3,bf];go_wp2;refine rV rC uk ak rfl al4 λR hR τ d'=>?_
 replace xG:=xG.tp τ d';generalize({wA with tape:=τ,drawn:=d'}:ah)=wB at xG⊢;simp only[sZ,rX,AL,Tryz.f3,bf];go_wp2;refine rV rC uk ak rfl al4 λR hR τ d'=>?_
 replace xG:=xG.tp τ d';generalize({wB with tape:=τ,drawn:=d'}:ah)=wC at xG⊢;simp only[sZ,rX,AL,Tryz.f3,bf];have J0:LJ w (λi=>bl.getD i []) 0 (λ_=>undef) (.slice none 0 0) wC:=⟨xG,bY _ _ _ _,λi hi=>absurd hi ag⟩;obtain⟨i0,zo,xY,wW,vV⟩:=cO Tryz.ae3;generalize hN:bl.length=N at*;have HN:Hid (bl.length=N):=hN;clear hN;go_wp2
 go_loopw [3,4] (λvl vj wr=>∃(j:Nat)(vi:Nat->ai),j<=N/\vj=.int .i64 (j:Int)/\LJ w (λi=>bl.getD i []) j vi vl wr) (λ_ vj _=>N-(intOf vj).toNat)
 case atStart=>exact⟨0,_,ag,rfl,J0⟩
 case round=>
  clear J0 xG;obtain⟨j,vi,hj,rfl,hI⟩:=hrel;have hsz:=hI.xG.uo;by_cases qB:j<N
  .have xZ:(j:Int)<(N:Int):=ag;obtain⟨b,o,rfl,c1⟩:=hL.get (Aq (l:=bl) (j:=j) (by rw[HN.out];exact qB));replace c1:=(xn hI.xG).cell c1;obtain⟨cp,w1,r_,tV,Ai,V5,TR⟩:=adh ⟨(bl.getD j []).toArray⟩ wr;simp only at r_ V5 TR;have hm:=λv' w2=>hI.more (v':=v') (w2:=w2) (o:=.cells #[.slice (some ⟨wr.heap.size,0,none⟩) (bl.getD j []).length cp] 24) tV Ai V5 TR
   have EO:=qH hI.row λg hg=>tV.block g (hI.row.lt g hg).2
   obtain⟨bq,cq,rfl⟩:=yS hI.row;have ahx:w.heap.size<=w1.heap.size:=ag;clear tV V5 TR Ai;generalize bl.getD j []=bj at c1 r_ hm;generalize bj.length=lj at r_ hm;generalize wr.heap.size=p9 at*
   go_wp2_with(at_builtin;refine wpList_append_own_at _ rfl _ _ 23 rfl w.heap.size 24 i0 (.slice none 0 0) 1 24 underlying23 zo xY wW vV rfl aB _ _ _ rfl (EO.alloc _) ⟨w1.heap.size,0,none⟩ 1 1 [.slice (some ⟨p9,0,none⟩) lj cp] rfl rfl (uj _ _ _) (aa7 _ _ _) bT ag aJ ?_;intro v' w2 ho qA _ Kt;have hJ:=hm v' w2 qA ho Kt)
   exact⟨⟨j+1,_,ag,aA,hJ⟩,jV⟩
  .obtain rfl:j=N:=ag;have E5:¬((j:Int)<(j:Int)):=ag;go_wp2;exact qZ _ _ vi wr ⟨_,adg rfl⟩ hI
end
end Go.Proofs.Y
namespace Go.Proofs.Y
open Go.Proofs.Tryz
open Go.RowKit Go.Deep Go.Hp
theorem UU(m ca cb:Nat)(ba bb:aW)(ns D:Nat->aj)(va vb:Nat->ai)(w:ah)(hm:m<=1048576)(ha:BlS w ba m ns D va)(hb:BlS w bb m ns D vb):
  Calls prog 8 #[.slice ba m ca,.slice bb m cb] w λr w'=>r=.returned (.bool true)/\Below w.heap.size w w':=by
 go_enter func8,ntmps8;go_wp2
 go_loopw [5] (λvi wr=>∃j:Nat,j<=m/\vi=.int .i64 (j:Int)/\∃q,wr=w.drewN q) (λvi _=>m-(intOf vi).toNat)
 case atStart=>exact⟨0,ag,rfl,0,rfl⟩
 case round=>
  obtain⟨j,hj,rfl,hw⟩:=hrel;have up:∀{p:Addr}{u:ai},w.cell? p=some u->wr.cell? p=some u:=λ{p u} h=>by obtain⟨m,rfl⟩:=hw;exact h
  have lup:∀{v:ai}{xs:aK},qP w v xs->qP wr.drew v xs:=λ{v xs} h=>by obtain⟨m,rfl⟩:=hw;exact(h.drewN m).below (aO _ _).drew
  by_cases qB:j<m
  .have xZ:(j:Int)<(m:Int):=ag;obtain⟨b,o,rfl,hc⟩:=ha.cells ag;obtain⟨b',o',rfl,V3⟩:=hb.cells ag;obtain⟨c0,c1⟩:=hc j qB;obtain⟨d0,d1⟩:=V3 j qB;replace c0:=up c0;replace c1:=up c1;replace d0:=up d0;replace d1:=up d1;have kS:=agr (va j) (vb j) (D j) wr.drew (lup (ha.dat j qB)) (lup (hb.dat j qB));obtain⟨pa,xa,ea⟩:=(ha.dat j qB).len;obtain⟨pb,xb,eb⟩:=(hb.dat j qB).len;rw[ea]at c1 kS;rw[eb]at d1 kS;clear ha hb hc V3 ea eb lup;generalize(rP (D j)).length=ld at*;generalize ns j=nj at*
   go_wp2_with fail
   go_region_held3 (λw'=>w'.cell? ⟨b,o+j*2+1,none⟩=some (.slice pa ld xa)/\w'.cell? ⟨b',o'+j*2+1,none⟩=some (.slice pb ld xb)) (go_keep)
    ((first|(go_at_call 18;(with_reducible refine kS.mono ?_);rintro r w2 ⟨rfl,xI⟩;obtain rfl:=xI.symm)))
   go_wp2_with fail
   go_region;go_wp2
   go_roundw
   case rel=>exact⟨j+1,ag,aV,BN (BN hw)⟩
   case measure=>simp[intOf];omega
  .obtain rfl:j=m:=ag;have E5:¬((j:Int)<(j:Int)):=ag;go_wp2;go_ret;obtain⟨q,rfl⟩:=hw;exact⟨rfl,below_drewN (aO _ _) q⟩
theorem aoL{ns:List (aj)}{sz:aC}{l:aj}{g:Nat}{vd:Nat->ai}{w:ah}(h:CB ns sz l g ns.length vd w):BlS w (some ⟨g,0,none⟩) ns.length (λi=>ns.getD i []) (Oa sz l) vd:=by refine⟨λ_=>⟨g,0,rfl,λi hi=>?_⟩,λi hi=>qP.owned (h.dat i hi)⟩;have c0:=h.row.cell (i:=i*2) ag;have c1:=h.row.cell (i:=i*2+1) ag;simp only[show i*2/2=i by omega,show(i*2+1)/2=i by omega,hi,aY,show i*2%2=0 by omega,show¬(i*2+1)%2=0 by omega,bU]at c0 c1;rw[bJ];exact⟨c0,c1⟩
theorem al9{B:Nat}{ns:List (aj)}{sz:aC}{l:aj}{f:Nat->rU}{vo:ai}{w:ah}(h:Wn B ns sz l ns.length f vo w):∃bo cap,vo=.slice bo ns.length cap/\BlS w bo ns.length (λi=>ns.getD i []) (Oa sz l) (λi=>(f i).d):=by obtain⟨bo,cap,e,_,_,hB⟩:=BC.Zd h.row;refine⟨bo,cap,e,λhm=>?_,λi hi=>yT (h.dat i hi).2⟩;obtain⟨b,o,h1,_,h3⟩:=hB.here hm;refine⟨b,o,h1,λi hi=>⟨?_,(h3 i hi).2⟩⟩;rw[<-(h.dat i hi).1];exact(h3 i hi).1
theorem al_{M:Nat}{sh:Nat->vZ}{g:Nat->Nat}{vb vb':ai}{er e':Nat}{w w':ah}(hP:Prm M g)(QP:∀i,i+1<M->(sh (g i)).i<=(sh (g (i+1))).i)(hR:aga M (λi=>sh (g i)) vb er w)(hD:alR M sh vb' e' w'):
  er=e'/\((vb=.slice none 0 0/\vb'=.slice none 0 0)\/∃l gb vd B f,0<M/\vb=.slice (some ⟨gb,0,none⟩) (sh 0).names.length (sh 0).names.length/\CB (sh 0).names (sh 0).sizes l gb (sh 0).names.length vd w/\Wn B (sh 0).names (sh 0).sizes l (sh 0).names.length f vb' w'):=by
 have tg:∀{e e'},G5 M (λi=>sh (g i)) e->ac_ M sh e'->e=e':=λh1 h2=>aiW hP QP h1 h2
 have al:ac_ M sh 0->UO M sh/\0<M:=λh=>by
  rcases h with⟨h,_⟩|⟨h,_⟩|⟨h,_⟩|⟨_,hA,_,h0,_⟩
  .cases h
  .cases h
  .cases h
  .exact⟨hA,h0⟩
 rcases hR with⟨h1,rfl,h2|⟨rfl,h2,h3⟩⟩|⟨rfl,h2,l,gb,vd,hF,_,rfl,hC⟩
 .rcases hD with⟨_,d2,rfl⟩|⟨d1,_⟩
  .exact⟨tg h2 d2,.inl ⟨rfl,rfl⟩⟩
  .exact absurd (tg h2 d1) h1
 .rcases hD with⟨d1,d2,_⟩|⟨d1,l,_,⟨_,d3,_⟩|⟨rfl,_,rfl⟩⟩
  .exact absurd (tg h2 d2).symm d1
  .obtain⟨hA,h0⟩:=al d1;exact absurd ⟨l,(XE hP hA h0 l).2 d3⟩ h3
  .exact⟨rfl,.inl ⟨rfl,rfl⟩⟩
 .rcases hD with⟨d1,d2,_⟩|⟨d1,l',hu,hd⟩
  .exact absurd (tg h2 d2).symm d1
  .obtain⟨hA,h0⟩:=al d1;have hF':=(XE hP hA h0 l).1 hF;obtain rfl:=hu l hF';rcases hd with⟨rfl,_,B,f,d3⟩|⟨_,d3,_⟩
   .obtain⟨_,_,_,a4,a5⟩:=H7 hA (hP.lt 0 h0);dsimp only at hC;rw[a4,a5]at hC;exact⟨rfl,.inr ⟨l',gb,vd,B,f,h0,by rw[<-a4],hC,d3⟩⟩
   .exact absurd hF' d3
def Two(w:ah)(va vb:ai):Prop:=∃m ca cb ba bb ns D xa xb,m<=1048576/\va=.slice ba m ca/\vb=.slice bb m cb/\BlS w ba m ns D xa/\BlS w bb m ns D xb
theorem aoM{M:Nat}{sh:Nat->vZ}{g:Nat->Nat}{vb vb':ai}{er e':Nat}{w w':ah}(hG:∀i,i<M->ShG (sh i))(hP:Prm M g)(QP:∀i,i+1<M->(sh (g i)).i<=(sh (g (i+1))).i)(hR:aga M (λi=>sh (g i)) vb er w)(hD:alR M sh vb' e' w')(hs:Sub w w'):er=e'/\Two w' vb vb':=by
 obtain⟨h1,⟨rfl,rfl⟩|⟨l,gb,vd,B,f,h0,rfl,hC,hB⟩⟩:=al_ hP QP hR hD
 .have hn:BlS w' none 0 (λ_=>[]) (λ_=>[]) (λ_=>undef):=⟨λh=>absurd h ag,λi hi=>absurd hi ag⟩;exact⟨h1,0,0,0,none,none,_,_,_,_,ag,rfl,rfl,hn,hn⟩
 .obtain⟨bo,cap,rfl,h2⟩:=al9 hB;have:=(hG 0 h0).few.ang;have:(sh 0).names.length<=1000:=this;exact⟨h1,_,_,_,_,_,_,_,_,_,ag,rfl,rfl,aoL (hC.sub hs),h2⟩
end Go.Proofs.Y
namespace Go.Proofs.Y
open Go.Proofs.Tryz
open Go.RowKit Go.Deep Go.Lf Go.Conc Go.Hp
section
variable {X:Nat->Prop}{Y:Nat->aZ}{D:Nat->ah->aN->Prop}{Stop:aI->ah->Prop}{w:ah}{cs:aT}{fr:aS}{T:aH}{n cap gv er:Nat}{bi:aW}{bs:Nat->aj}{vi:Nat->ai}{g:Nat->Nat}{vb:ai}
theorem SlC.sub{w w':ah}(h:SlC w bi n bs vi)(hs:Sub w w'):SlC w' bi n bs vi:=⟨h.sl.sub hs,λi hi=>by obtain⟨g,c,a1,a2,a3,a4⟩:=h.at_ i hi;exact⟨g,c,a1,a2,bH a3 hs.1,a4⟩⟩
theorem ama(uk:zN X D)(hT:aqE (.slice bi n cap) vb (.slice (some ⟨gv,0,none⟩) n n) (.int .i64 ((er:Nat):Int)) T)(hS:SlC w bi n bs vi)(hn:n<=1048576)(alN:∀i,i<n->w.cell? ⟨gv,i,none⟩=some (.int .i64 ((Ua (bs i):Nat):Int)))(hP:Prm (CS bs n).length g)(QP:∀i,i+1<(CS bs n).length->(xR (CS bs n) (g i)).i<=(xR (CS bs n) (g (i+1))).i)(hR:aga (CS bs n).length (λi=>xR (CS bs n) (g i)) vb er w)
  (qZ:∀w',tX w.heap.size w w'->∀z,rG X Y z w'->sU prog D Stop (G (fr.finish (.tuple #[vb,.slice (some ⟨gv,0,none⟩) n n,.bool true])) cs) z):
  uN prog X Y D Stop 4 (fr::cs) [.code dy2] ⟨T,[]⟩ w:=by
 refine Gv rC uk ak func4 (R:=λy w'=>y=.tuple #[vb,.slice (some ⟨gv,0,none⟩) n n,.bool true]/\tX w.heap.size w w') (λτ d=>?_) (λy v' ⟨h1,h2⟩=>h1▸qZ v' h2);have bl:tX w.heap.size w {w with tape:=τ,drawn:=d}:=(tX.refl _ w).tp τ d;have Xh:Sub w {w with tape:=τ,drawn:=d}:=xn bl;have kD:=adb n cap bi bs vi _ (hS.sub Xh) hn;have two:=λ(vb':ai)(e':Nat)(w':ah)(h1:alR (CS bs n).length (xR (CS bs n)) vb' e' w')(h2:Sub w w')=>aoM (λi hi=>Jj bs n _ (by simp[xR,bQ hi])) hP QP hR h1 h2;clear hS hP QP hR;generalize({w with tape:=τ,drawn:=d}:ah)=wA at bl Xh kD⊢;obtain⟨f,rfl⟩:=hT;unfold Tod
 conv in dy2=>simp only[dy2,dy1,H9,rX,Tryz.f4,bf]
 go_upto_region 3 with(first|(go_at_call 6;(with_reducible refine kD.mono ?_);rintro r w1 ⟨tV,vb',vt',e',rfl,PX,hD1⟩))
 have Ai:=Xh.trans (xn (tX.of tV));obtain⟨rfl,m,ca,cb,ba,bb,ns,Da,xa,xb,hm,rfl,rfl,hA,hB⟩:=two _ _ _ hD1 Ai;have bl1:=bl.trans (tX.of tV) bl.uo;have hL1:=yT PX;obtain⟨bt,ct,rfl⟩:=yS PX;have YB:=λi hi=>Ai.cell (alN i hi)
 clear kD two hD1 PX alN Xh Ai tV bl;have kN:=aa8 (er:Int)
 go_wp2_with(first|(go_at_call 7;(with_reducible refine(kN _).mono ?_);rintro r w2 ⟨rfl,xI⟩;obtain rfl:=xI.symm))
 clear kN
 go_loopw [11] (λvj wr=>∃j:Nat,j<=n/\vj=.int .i64 (j:Int)/\∃q,wr=w1.drewN q) (λvj _=>n-(intOf vj).toNat)
 case atStart=>exact⟨0,ag,rfl,0,rfl⟩
 case round=>
  obtain⟨j,hj,rfl,hw⟩:=hrel;have up:∀{p:Addr}{u:ai},w1.cell? p=some u->wr.cell? p=some u:=λ{p u} h=>by obtain⟨m,rfl⟩:=hw;exact h
  by_cases qB:j<n
  .have xZ:(j:Int)<(n:Int):=ag;have c1:wr.cell? ⟨gv,j,none⟩=some (.int .i64 ((Ua (bs j):Nat):Int)):=up (YB j qB);obtain⟨b,o,rfl,c2⟩:=hL1.get (Dx (l:=Sv bs n) (j:=j) (by rw[aaW];exact qB));rw[show(Sv bs n).getD j 0=Ua (bs j)by simp[Sv,qB]]at c2;replace c2:=up c2;clear YB hL1;generalize Ua (bs j)=ej at*;have kN:=aa8 (ej:Int)
   go_wp2_with fail
   go_region_held3 (λw'=>w'.cell? ⟨gv,j,none⟩=some (.int .i64 (ej:Int))/\w'.cell? ⟨b,o+j,none⟩=some (.int .i64 (ej:Int))) (go_keep)
    ((first|(go_at_call 7;(with_reducible refine(kN _).mono ?_);rintro r w2 ⟨rfl,xI⟩;obtain rfl:=xI.symm)))
   go_wp2;exact⟨⟨j+1,ag,aA,BN hw⟩,jV⟩
  .obtain rfl:j=n:=ag;have E5:¬((j:Int)<(j:Int)):=ag;have bl2:tX w.heap.size w wr:=by obtain⟨q,rfl⟩:=hw;exact bl1.trans (tX.of (below_drewN (aO _ _) q)) bl1.uo
   have gA:BlS wr ba m ns Da xa:=by obtain⟨q,rfl⟩:=hw;exact⟨hA.cells,λi hi=>(hA.dat i hi).drewN q⟩
   have gB:BlS wr bb m ns Da xb:=by obtain⟨q,rfl⟩:=hw;exact⟨hB.cells,λi hi=>(hB.dat i hi).drewN q⟩
   have kS:=UU m ca cb ba bb ns Da xa xb wr hm gA gB
   go_wp2_with(first|(go_at_call 8;(with_reducible refine kS.mono ?_);rintro r w2 ⟨rfl,rq⟩))
   go_ret3
   exact⟨_,rfl,rfl,bl2.trans (tX.of rq) bl2.uo⟩
end
end Go.Proofs.Y
namespace Go.Proofs.Y
open Go.Proofs.Tryz
open Go.RowKit Go.Deep Go.Lf Go.Conc Go.ConcN Go.Gh Go.Hp
section
variable {X:Nat->Prop}{Y:Nat->aZ}{D:Nat->ah->aN->Prop}{Stop:aI->ah->Prop}{w:ah}{T:aH}
theorem aoN(uk:zN X D)(hT:aqD (.bool true) T)
  (C_:∀(T':aH)(kk:dh)(w':ah),T'.getD 2 undef=.bool true->tX w.heap.size w w'->yu prog X Y D Stop none [] 3 [] (.code .ret::kk) T' w'):
  yu prog X Y D Stop none [] 3 [] [.code dz4] T w:=by
 obtain⟨g,rfl⟩:=hT;unfold Tsd;rw[aoI];refine yB uk (TE rC uk ak al4 λR hR τ d=>?_);have bl:tX w.heap.size w {w with tape:=τ,drawn:=d}:=(tX.refl _ w).tp τ d;generalize({w with tape:=τ,drawn:=d}:ah)=wA at bl⊢;simp only[dz4,dz3,sZ,rX,AL,Tryz.f3,bf];go_wp2;refine C_ _ _ _ ?_ bl;rfl
end
theorem ac0{w:ah}{bo:aW}{cap:Nat}{bl:List (aj)}{a:Addr}(hL:qP w (.slice bo bl.length cap) (uU bl))(hn:bl.length<=1048576)(hl:∀i,i<bl.length->(bl.getD i []).length<=1048576)(hG:Gl a w):
  Ok prog (λv w'=>v=.bool true/\Kz w.heap.size w w') (solo (G (Frame.enter prog 3 #[.slice bo bl.length cap] .normal) []) w) #[]:=by
 obtain⟨Y,v,B_,LP⟩:=YZ w (λ_=>False) (λb h=>h.elim);have Xh:Sub w v:=⟨by rw[B_.size];exact ay _,λb cc t fr h=>LP b cc t fr (λx=>x) h⟩;have hsz:w.heap.size=v.heap.size:=B_.size
 have e:Frame.enter prog 3 #[.slice bo bl.length cap] .normal=(base 3).at ⟨#[.slice bo bl.length cap]++Array.replicate 28 undef,[]⟩ [.code AL]:=by rw[enter_at _ func3 (c:=AL) ak,show Tryz.f3.ntmps-(#[.slice bo bl.length cap]:aH).size=28 from by rw[ntmps3];rfl]
 rw[e]
 have PW:LU prog (wX λ_=>False) 0 #[G ((base 3).at ⟨#[.slice bo bl.length cap]++Array.replicate 28 undef,[]⟩ [.code AL]) []] w #[] (λ_=>0):=
  ai6 (λop h=>lh) (λop h=>lh) (λop h=>lh) rfl
 let St:aI->ah->Prop:=λgr W=>∃(T T2:aH)(vl:ai)(vi:Nat->ai)(v1:ah),ai2 vl T/\aoK vl T2/\LJ v (λi=>bl.getD i []) bl.length vi vl v1/\gr=G ((base 5).at ⟨#[vl]++Array.replicate 55 undef,[]⟩ [.code yj]) [ai4 T2,ai3 T]/\rG (λ_=>False) Y W v1
 have key:=ai5 (Stop:=St) (Y:=Y) (BV (λ_=>False)) (Xh.lies hL) hn (λT vl vi v1 a1 a2=>al5 (BV _) a1 λT' a1'=>al6 (BV _) λT2 a3 y hy=>.stop λd=>⟨T',T2,vl,vi,v1,a1',a3,a2,rfl,hy.at d⟩);refine late (Fin:=Ok prog _) (Shun:=wX λ_=>False) (e:=0) adi (λ_ _ _ h=>h) (λgs1 a1 W1 sl1 t1 q1 h01 uw yQ=>?_) (key w B_.t) w.drawn _ none #[] _ rfl PW;obtain⟨T,T2,vl,vi,v1,hT1,VY,hJ,rfl,Ai⟩:=uw W1.drawn;replace Ai:rG (λ_=>False) Y W1 v1:=Ai;clear key uw;have wW:=aiH B_.t Ai hJ.xG (λb h=>h.elim);rw[<-hsz]at wW;have hG1:Gl a v1:=(hG.sub Xh).sub (xn hJ.xG);obtain⟨bi,cp,rfl,AZ⟩:=hJ.slc hl;refine aaU adi h01 yQ Ai AZ.sl hn hG1 ag ?_;intro e4 g4 vb4 er4 gv4 X4 Yv W4 sl4 t4 q4 Y4 v4 he4 hP4 ar0 h04 xX Yw hXa hXb XG ar1 aqF hR4;have hz4:=wW.trans (ar1.kz (h0:=w.heap.size) (λb h=>h.elim) wW.size);have hX4:∀b,X4 b->w.heap.size<=b:=λb hb=>(hXb b hb).elim (λh=>h.elim) λh=>bF wW.size h
 have hv4:v.heap.size<=v4.heap.size:=bF hJ.xG.uo XG.1;refine amb h04 xX (al7 (BV X4) VY (λT5 hT5=>FN.2 (ama (BV X4) hT5 (AZ.sub XG) hn aqF hP4 ar0 hR4 λw5 Xg=>al8 (BV X4) hT1 λT6 hT6=>aoN (BV X4) hT6 λT' kk w' h2 Jf=>?_)) W4 Yw);refine afK (BV _) func3 ak (y:=.bool true) (λu=>?_) (λu d ane VR=>?_)
 .rw[Sem.runT_eq,results_tmp (fn:=Tryz.f3) (t:=2) rfl _ _ _,events_results_tmp (fn:=Tryz.f3) (t:=2) rfl _ _,h2]
 .refine⟨rfl,#[],aA,λd'=>⟨.bool true,VR d',rfl,?_⟩⟩;have:=aiH Yw ane (h0:=w.heap.size) ((Xg.trans (Jf.mono Xg.uo) (ay _)).mono ag) hX4;exact hz4.trans ⟨this.os,this.output,this.size,this.block⟩
