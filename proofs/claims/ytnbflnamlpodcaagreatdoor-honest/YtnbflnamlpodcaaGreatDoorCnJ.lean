import Derived.Test.YtnbflnamlpodcaaGreatDoorSmB
set_option maxHeartbeats 4000000
set_option maxRecDepth 100000
namespace Go.Proofs.Y
open Go.RowKit Go.Deep Go.Hp
structure ArI(h:Nat)(w:ah)(i:Nat)(f:Nat->qX)(D:Nat->ak)(va:ai)(wr:ah):Prop where
 own:wr.ownsRow h 44 2 va i (xn i f)
 nm:∀j,j<i->(f j).k=wU j
 len:∀j,j<i->(D j).length<14
 dat:∀j,j<i->∃B,wr.ownsRow B 5 1 (f j).d (D j).length (sJ (D j))
 AO:Below h w wr
structure BlI(i pb:Nat)(w:ah)(L:ak)(vd:ai)(wq:ah):Prop where
 row:ql wq pb [rH (wU i),vd] 44
 own:wq.ownsRow (pb+1) 5 1 vd L.length (sJ L)
 AO:Below w.heap.size w wq
 pb:w.heap.size<=pb
theorem ah6{w:ah}{B n:Nat}{v:ai}{xs:aK}(h:w.ownsRow B 5 1 v n xs)(k:ak):∃e:qX,e.k=k/\e.d=v:=by
 rcases h.2 with⟨h1,h2⟩|⟨g,cap,cur,rfl,h2,h3,h4,_⟩
 .subst h1;exact⟨⟨k,none,0,0⟩,rfl,rfl⟩
 .exact⟨⟨k,some ⟨g,0,none⟩,_,cap⟩,rfl,rfl⟩
theorem Qs{w:ah}{B:Nat}{e:qX}{L:ak}(h:w.ownsRow B 5 1 e.d L.length (sJ L)):zn w e L:=by
 rcases h.2 with⟨h1,h2⟩|⟨g,cap,cur,h1,h2,h3,h4,_⟩
 .unfold qX.d at h1;cases h1':e.a with
  |none=>
   rw[h1']at h1;simp only[avN,true_and]at h1;exact⟨ag,.inl ⟨h1',h1.1,h1.2⟩⟩
  |some x=>rw[h1']at h1;simp at h1
 .have h1':=h1;unfold qX.d at h1';simp only[avN]at h1';refine⟨h1'.2.1.symm,.inr ⟨_,h1'.1,λj u hj=>?_⟩⟩;have hl:j<(sJ L).length:=(fJ.1 hj).1;rw[h1]at h;rw[af_,bM,h.cellAt j (by simpa[sJ]using hl)];exact hj
theorem ArI.next{h i pb:Nat}{w wr wq:ah}{f:Nat->qX}{D:Nat->ak}{va vd:ai}{L:ak}(H:ArI h w i f D va wr)(hB:BlI i pb wr L vd wq)(hh:h<=wr.heap.size):
  ∃e:qX,e.k=wU i/\e.d=vd/\wq.ownsRow h 44 2 va i (xn i f)/\wq.ownsRow (pb+1) 5 1 e.d L.length (sJ L)/\(∀j,j<i->∃B,wq.ownsRow B 5 1 (f j).d (D j).length (sJ (D j)))/\Below h w wq:=by
 obtain⟨e,h1,h2⟩:=ah6 hB.own (wU i)
 exact⟨e,h1,h2,rU H.own λg hg=>hB.AO.block g (H.own.lt g hg).2,h2▸hB.own,λj hj=>by obtain⟨B,hBj⟩:=H.dat j hj;exact⟨B,rU hBj λg hg=>hB.AO.block g (hBj.lt g hg).2⟩,H.AO.trans (hB.AO.mono hh)⟩
theorem adb{k:Nat}(h:k<256):(k:Int)=(((UInt8.ofNat k).toNat:Nat):Int):=by rw[fP,cu h]
theorem BlI.alQ{i pb:Nat}{w wq w1:ah}{L:ak}{vd:ai}{o:Obj}(H:BlI i pb w L vd wq)(hg:(wq.alloc o).grownBy w1 vd.ownBlock):ql w1 pb [rH (wU i),vd] 44:=by have qK:=H.row.lt;have e:=hg.block pb aS (λe=>by have:=(H.own.lt pb e.symm).1;omega);unfold ql;rw[e,dI _ _ _ qK];exact H.row
theorem BlI.add{i pb:Nat}{w wq w1:ah}{L:ak}{vd v':ai}{o:Obj}(H:BlI i pb w L vd wq)(x:UInt8)(ho:w1.ownsRow (pb+1) 5 1 v' (L.length+1) (sJ L++[.int .u8 (x.toNat:Int)]))(hg:(wq.alloc o).grownBy w1 vd.ownBlock):BlI i pb w (L++[x]) v' (w1.setCell ⟨pb,1,none⟩ v'):=by
 have qK:=H.row.lt;have hp:=H.pb;refine⟨(H.alQ hg).set 1 v',?_,?_,hp⟩
 .have e:sJ (L++[x])=sJ L++[.int .u8 (x.toNat:Int)]:=eX;rw[e,bK];exact rU ho λg hg=>jR _ _ _ _ (by have:=(ho.lt g hg).1;show g≠pb;omega)
 .have h1:=(H.AO.alloc (jf (jw hp qK)) o).grown hg aS (λx hx=>by have:=(H.own.lt x hx).1;omega);exact h1.setCell hp _
theorem aqK(z:Int):∃y:Nat,y<256/\IntKind.u8.wrap z=(y:Int):=by
 have h:IntKind.u8.wrap z=z%256:=by simp[IntKind.wrap,IntKind.bits,IntKind.signed]
 exact⟨(z%256).toNat,ag,by rw[h];omega⟩
theorem UC(k:ak)(a:aY)(l c:Nat):∀u∈[Value.string ⟨k.toArray⟩,.slice a l c],u.oneCell'=true:=by exact azu
theorem ArI.add{h i pb:Nat}{w wr0 wr w1:ah}{f:Nat->qX}{D:Nat->ak}{va v':ai}{o:Obj}{e:qX}{L:ak}(H:ArI h w i f D va wr0)(ho:w1.ownsRow h 44 2 v' (i+1) (xn i f++[.string ⟨(wU i).toArray⟩,.slice e.a e.l e.c]))(hg:(wr.alloc o).grownBy w1 va.ownBlock)(he:e.k=wU i)(hL:L.length<14)
  (hd:wr.ownsRow (pb+1) 5 1 e.d L.length (sJ L)) (hdd:∀j,j<i->∃B,wr.ownsRow B 5 1 (f j).d (D j).length (sJ (D j))) (hb:Below h w wr) (wS:wr.ownsRow h 44 2 va i (xn i f)) (hw:h<=wr.heap.size):ArI h w (i+1) (λj=>if j=i then e else f j) (λj=>if j=i then L else D j) v' w1:=by
 have hk:∀{B n:Nat}{v:ai}{xs:aK},wr.ownsRow B 5 1 v n xs->w1.ownsRow B 5 1 v n xs:=λhx=>rU hx λg uO=>by have qK:=(hx.lt g uO).2;rw[hg.block g aS (λe=>D6 wS hx aC e.symm uO),dI _ _ _ qK]
 refine⟨?_,λj hj=>?_,λj hj=>?_,λj hj=>?_,(hb.alloc hw o).grown hg aS (λx hx=>(wS.lt x hx).1)⟩
 .rw[BI,RF (g:=f) λj hj=>by simp;intro h;omega];have e1:FM (if i=i then e else f i)=[.string ⟨(wU i).toArray⟩,.slice e.a e.l e.c]:=by rw[ay rfl,FM,he];rfl
  rw[e1];exact ho
 .split
  .rename_i h1;rw[h1];exact he
  .exact H.nm j ag
 .split
  .exact hL
  .exact H.len j ag
 .split
  .exact⟨_,hk hd⟩
  .obtain⟨B,h1⟩:=hdd j ag;exact⟨B,hk h1⟩
def InR(i pb sz len:Nat)(w:ah)(vat vk:ai)(wq:ah):Prop:=∃(k q:Nat)(L:ak)(vd:ai),k<=sz/\k=L.length/\q<=len/\vk=.int .i64 ((k:Nat):Int)/\vat=.int .i64 ((q:Nat):Int)/\BlI i pb w L vd wq
def asK(h n len:Nat)(w:ah)(va vat vi:ai)(wr:ah):Prop:=∃(i q:Nat)(f:Nat->qX)(D:Nat->ak),i<=n/\q<=len/\vi=.int .i64 ((i:Nat):Int)/\vat=.int .i64 ((q:Nat):Int)/\ArI h w i f D va wr
def aou(w:ah)(e:Ending)(w':ah):Prop:=∃v m f D,e=.returned v/\m<=5/\ArI w.heap.size w m f D v w'
theorem aaO(vr:ai)(zs:di)(w:ah)(hz:Uc w vr zs)(hlen:zs.length<9223372036854775807):
  Calls Tryz.prog 7 #[vr] w λe w'=>aou w e w':=by
 obtain⟨i0,Ak,yz,xA,wH⟩:=dm BJ;obtain⟨i1,KQ,hy0,hy1,hy2⟩:=dm Tryz.Jn;obtain⟨bo,L9,rfl,uT⟩:=hz.open;by_cases h0:zs.length=0
 .go_enter Tryz.func7,Tryz.ntmps7;have e0:(zs.length:Int)=0:=ag;go_wp2;go_ret;exact⟨_,0,λ_=>⟨[],none,0,0⟩,λ_=>[],rfl,ag,⟨dK _ _ _ _,λj hj=>absurd hj ag,λj hj=>absurd hj ag,λj hj=>absurd hj ag,aT _ _⟩⟩
 .obtain⟨b,off,rfl,hb,hcell⟩:=uT ag;clear uT
  have cz:∀j,j<zs.length->∃z,w.cell? ⟨b,off+j,none⟩=some (.int .i64 z)/\Jg z:=λj hj=>by have hzj:zs[j]?=some zs[j]:=cO hj;exact⟨_,hcell j _ hzj,hz.aga _ (jA hzj)⟩
  obtain⟨z0,hc0,aqm⟩:=cz 0 ag;rw[gy]at hc0;have hl0:(0:Int)<(zs.length:Int):=ag;have hn0:¬((zs.length:Int)=0):=ag;have hp:=Dq z0 6 6 rfl aqm.1 aqm.2 ag ag;have vY:=yH z0 (show 0<6 by omega);go_enter Tryz.func7,Tryz.ntmps7;generalize yI z0 6=n at hp vY;clear hcell hz h0
  go_wp2_with(first|(go_at_call 10;(with_reducible refine(hp _).mono ?_);rintro e w' ⟨rfl,uf⟩;obtain rfl:=uf.symm))
  have I9:=hb;generalize hh:w.heap.size=h at*;have start:ArI h w 0 (λ_=>⟨[],none,0,0⟩) (λ_=>[]) (.slice none 0 0) w:=⟨dK _ _ _ _,λj hj=>absurd hj ag,λj hj=>absurd hj ag,λj hj=>absurd hj ag,aT _ _⟩
  go_loopw [3,5,6,7,8,9,10] (λva vat vi _ _ _ _ wr=>asK h n zs.length w va vat vi wr) (λ_ _ vi _ _ _ _ _=>n-(intOf vi).toNat)
  case atStart=>exact⟨0,1,_,_,ag,ag,rfl,rfl,start⟩
  case round=>
   clear start hc0 aqm hp;obtain⟨i,q,f,D,hi,hq,rfl,rfl,H⟩:=hrel;have hs:h<=wr.heap.size:=by rw[<-hh];exact H.AO.size
   by_cases qK:i<n
   .have Am:(i:Int)<(n:Int):=ag;have kn:=alg i ag;simp only[rH]at kn;by_cases hql:q<zs.length
    case' pos=>
     have ah7:(q:Int)<(zs.length:Int):=ag;obtain⟨z,hcz,P8⟩:=cz q hql;have kp:=Dq z 14 14 rfl P8.1 P8.2 ag ag;have hsz:=yH z (show 0<14 by omega);generalize yI z 14=sz at kp hsz;rw[<-H.AO.cell (p:=⟨b,off+q,none⟩) hb]at hcz
     go_wp2_with(first
      |(go_at_call 14;(with_reducible refine(kn _).mono ?_);rintro e w1 ⟨rfl,uu⟩;have hcq:=(((aT w1.heap.size w1).alloc (az _) (.cells #[rH (wU i),.slice none 0 0] 44)).cell (p:=⟨b,off+q,none⟩) (bG (bG hb hs) uu.size)).trans ((uu.cell (p:=⟨b,off+q,none⟩) (bG hb hs)).trans hcz);simp only[rH]at hcq)
      |(go_at_call 10;(with_reducible refine(kp _).mono ?_);rintro e w' ⟨rfl,uf⟩;obtain rfl:=uf.symm))
     clear kp hcz P8 hcq ah7;have hq1:q+1<=zs.length:=ag;clear hql
    case' neg=>
     have ah7:¬((q:Int)<(zs.length:Int)):=ag;obtain⟨sz,hsz,esz⟩:∃sz:Nat,sz<14/\((sz:Nat):Int)=0:=⟨0,ag,rfl⟩;have hq1:q<=zs.length:=hq
     go_wp2_with(first
      |(go_at_call 14;(with_reducible refine(kn _).mono ?_);rintro e w1 ⟨rfl,uu⟩))
     rw[<-esz];have ez:sz<1:=ag;clear ah7 hql esz
    all_goals
     have Jj:BlI i w1.heap.size wr [] (.slice none 0 0) (w1.alloc (.cells #[rH (wU i),.slice none 0 0] 44)):=⟨ql.made w1 [rH (wU i),.slice none 0 0] 44,dK _ _ _ _,uu.alloc uu.size _,uu.size⟩;simp only[rH]at Jj;generalize w1.alloc (.cells #[.string ⟨(wU i).toArray⟩,.slice none 0 0] 44)=ws at Jj⊢;generalize w1.heap.size=pb at Jj⊢;clear uu kn
     go_loopw [5,9,10] (λvat vk _ wq=>InR i pb sz zs.length wr vat vk wq) (λ_ vk _ _=>sz-(intOf vk).toNat)
     case atStart=>first|exact⟨0,q+1,[],_,ag,rfl,hq1,rfl,bU,Jj⟩|exact⟨sz,_,[],_,ag,aS,hq1,rfl,rfl,Jj⟩
     case round=>
      rename_i wq;clear Jj hq1;obtain⟨k,q,L,vd,hk,rfl,hq,rfl,rfl,hB⟩:=hrel;by_cases hks:L.length<sz
      .first|(exfalso;omega)|skip
       all_goals
        have aov:(L.length:Int)<(sz:Int):=ag;have c0:=hB.row.cell (i:=0) rfl;have c1:=hB.row.cell (i:=1) rfl;simp only[rH]at c0;by_cases hql:q<zs.length
        case' pos=>
         have ah7:(q:Int)<(zs.length:Int):=ag;obtain⟨z,hcz,P8⟩:=cz q hql;have hwq:=H.AO.trans (hB.AO.mono hs);rw[<-hwq.cell (p:=⟨b,off+q,none⟩) hb]at hcz;obtain⟨y,hy,hx⟩:=aqK z
         go_wp2_with(at_builtin;go_loud (refine eP _ rfl _ _ 34 rfl (pb+1) 5 i0 (.int .u8 0) 1 1 Tryz.underlying34 Ak yz xA wH rfl aC _ _ _ rfl (hB.own.alloc _) ⟨wr.heap.size,0,none⟩ 1 1 [.int .u8 (y:Int)] rfl rfl (zA _ _ _) (ade _) dB ag awX ?_;intro v' w1 xJ sO _;obtain⟨gg,cc,rfl,_,_⟩:=xJ.form ag;have xK:=hB.alQ sO;have d0:=xK.cell (i:=0) rfl;have d1:=xK.cell (i:=1) rfl;have f1:=xK.frozen 1;have Ap:=hB.add (UInt8.ofNat y) axW sO;simp only[rH]at d0;clear xJ sO xK c0 c1))
        case' neg=>
         have ah7:¬((q:Int)<(zs.length:Int)):=ag
         go_wp2_with(at_builtin;go_loud (refine eP _ rfl _ _ 34 rfl (pb+1) 5 i0 (.int .u8 0) 1 1 Tryz.underlying34 Ak yz xA wH rfl aC _ _ _ rfl (hB.own.alloc _) ⟨wr.heap.size,0,none⟩ 1 1 [.int .u8 (L.length:Int)] rfl rfl (zA _ _ _) (ade _) dB ag awX ?_;intro v' w1 xJ sO _;obtain⟨gg,cc,rfl,_,_⟩:=xJ.form ag;have xK:=hB.alQ sO;have d0:=xK.cell (i:=0) rfl;have d1:=xK.cell (i:=1) rfl;have f1:=xK.frozen 1;have Ap:=hB.add (UInt8.ofNat L.length) (by rw[<-adb (k:=L.length) ag];exact xJ) sO;simp only[rH]at d0;clear xJ sO xK c0 c1))
        all_goals
         go_roundw
         case rel=>first|exact⟨L.length+1,q+1,L++[UInt8.ofNat y],_,ag,ax,ag,bU,bU,Ap⟩|exact⟨L.length+1,q,L++[UInt8.ofNat L.length],_,ag,ax,ag,bU,rfl,Ap⟩
         case measure=>simp[intOf];omega
      .have aov:¬((L.length:Int)<(sz:Int)):=ag;obtain⟨e,he1,he2,ho,hd,hdd,WR⟩:=H.next hB hs;have c0:=hB.row.cell (i:=0) rfl;have c1:=hB.row.cell (i:=1) rfl;rw[<-he2]at c1;simp only[rH,qX.d]at c0 c1;have hpb:=hB.row.lt;have hwh:h<=wr.heap.size:=by rw[<-hh];exact WR.size
       clear hB he2
       go_wp2_with(at_builtin;go_loud (refine eP _ rfl _ _ 26 rfl h 44 i1 (.agg #[.string ⟨#[]⟩,.slice none 0 0]) 2 40 Tryz.underlying26 KQ hy0 hy1 hy2 rfl aC _ _ _ rfl (ho.alloc _) ⟨wr.heap.size,0,none⟩ 1 1 [.string ⟨(wU i).toArray⟩,.slice e.a e.l e.c] rfl rfl (cell_two_new _ _ _ _) (UC _ _ _ _) dB ag aS ?_;intro v' w1 xJ sO _))
       go_roundw
       case rel=>exact⟨i+1,q,λj=>if j=i then e else f j,λj=>if j=i then L else D j,ag,hq,bU,rfl,H.add xJ sO he1 ag hd hdd WR ho hwh⟩
       case measure=>simp[intOf];omega
   .obtain rfl:i=n:=ag;have Hg:¬((i:Int)<(i:Int)):=ag;go_wp2;go_ret;exact⟨_,i,f,D,rfl,ag,hh▸H⟩
end Go.Proofs.Y
namespace Go.Proofs.Y
open Go.RowKit Go.Deep Go.Lf Go.Conc Go.Hp
def turn(f:Nat->qX)(xs:aA):Nat->qX:=λj=>f (xs.getD j 0)
theorem aaP{w w':ah}{B e z n B':Nat}{v:ai}{xs:aK}(h:w.ownsRow B e z v n xs)(hb:sH B' w w')(hB:w.heap.size<=B'):w'.ownsRow B e z v n xs:=rU h λg hg=>hb.blk (bG (h.lt g hg).2 hB)
structure WL(K N C m:Nat)(f:Nat->qX)(D:Nat->ak)(pb:Nat)(vb:ai)(w:ah):Prop where
 par:ql w pb [.int .i64 ((K:Nat):Int),.int .i64 ((N:Nat):Int),.int .i64 ((C:Nat):Int)] 24
 own:∃B,w.ownsRow B 44 2 vb m (xn m f)
 nm:∀j,j<m->(f j).k=wU j
 len:∀j,j<m->(D j).length<14
 dat:∀j,j<m->∃B,w.ownsRow B 5 1 (f j).d (D j).length (sJ (D j))
 hm:m<=5
theorem WL.AO{K N C m:Nat}{f:Nat->qX}{D:Nat->ak}{pb:Nat}{vb:ai}{w w':ah}{B:Nat}(h:WL K N C m f D pb vb w)(hb:sH B w w')(hB:w.heap.size<=B):WL K N C m f D pb vb w':=
 ⟨(hb.blk (bG h.par.lt hB)).trans h.par,by obtain⟨B,h1⟩:=h.own;exact⟨B,aaP h1 hb hB⟩,h.nm,h.len,λj hj=>by obtain⟨B,h1⟩:=h.dat j hj;exact⟨B,aaP h1 hb hB⟩,h.hm⟩
structure SmS(h0 K N C m:Nat)(f:Nat->qX)(D:Nat->ak)(xs:aA)(pb:Nat)(vb vt:ai)(w:ah):Prop where
 pre:WL K N C m f D pb vb w
 owt:∃B,h0<=B/\w.ownsRow B 44 2 vt m (xn m (turn f xs))
 once:at6 m xs
theorem Uc.AO{w w':ah}{v:ai}{zs:di}{B:Nat}(h:Uc w v zs)(hb:sH B w w')(hB:w.heap.size<=B):Uc w' v zs:=by
 refine⟨h.aga,?_⟩;rcases h.lies with h1|⟨b,off,cap,h1,h2,h3⟩
 .exact .inl h1
 .refine .inr ⟨b,off,cap,h1,bG h2 hb.sN,λj z hz=>?_⟩;have:=h3 j z hz;unfold World.cell? at this⊢;rw[hb.blk (bG h2 hB)];exact this
section
variable {X:Nat->Prop}{Y:Nat->aV}{D:Nat->ah->aH->Prop}{Stop:aG->ah->Prop}{w:ah}
end
theorem OB{w w':ah}{B e z n:Nat}{v:ai}{xs:aK}(h:w.ownsRow B e z v n xs)(hs:Sub w w'):w'.ownsRow B e z v n xs:=by
 refine⟨h.1,?_⟩;rcases h.2 with h1|⟨g,cap,cur,h1,h2,h3,h4⟩
 .exact .inl h1
 .exact .inr ⟨g,cap,cur,h1,h2,hs.2 _ _ _ _ h3,h4⟩
theorem WL.sub{K N C m:Nat}{f:Nat->qX}{D:Nat->ak}{pb:Nat}{vb:ai}{w w':ah}(h:WL K N C m f D pb vb w)(hs:Sub w w'):WL K N C m f D pb vb w':=
 ⟨hs.row h.par,by obtain⟨B,h1⟩:=h.own;exact⟨B,OB h1 hs⟩,h.nm,h.len,λj hj=>by obtain⟨B,h1⟩:=h.dat j hj;exact⟨B,OB h1 hs⟩,h.hm⟩
def Ld(D:Nat->ak)(e:qX):ak:=D ((e.k.getD 1 0).toNat-97)
theorem NC(D:Nat->ak){e:qX}{j:Nat}(hj:j<26)(h:e.k=wU j):Ld D e=D j:=by
 unfold Ld;rw[h]
 have:((wU j).getD 1 0).toNat=97+j:=by show(UInt8.ofNat (97+j)).toNat=97+j;rw[fP,cu ag]
 rw[this,iT]
section
variable {h0 K N C m:Nat}{f:Nat->qX}{D:Nat->ak}{xs:aA}{pb:Nat}{vb vt:ai}{w:ah}
theorem alR{f':Nat->qX}{v:ai}{B:Nat}(h:WL K N C m f D pb vb w)(ho:w.ownsRow B 44 2 v m (xn m f'))(hf:∀i,i<m->∃j,j<m/\f' i=f j):∃bo cap,v=.slice bo m cap/\WX w bo m cap f' (Ld D):=by
 obtain⟨bo,cap,rfl,h1,h2,hB⟩:=BC.ae2 ho;have hm:=h.hm;refine⟨bo,cap,rfl,ag,h1,h2,λi hi=>?_,λi hi=>?_,hB,λi hi=>?_⟩
 .obtain⟨j,hj,e⟩:=hf i hi;rw[e,h.nm j hj];simp[wU]
 .obtain⟨j,hj,e⟩:=hf i hi;obtain⟨B,hd⟩:=h.dat j hj;have h1:=(Qs hd).1;have h2:=h.len j hj;rw[e];omega
 .obtain⟨j,hj,e⟩:=hf i hi;obtain⟨B,hd⟩:=h.dat j hj;rw[e,NC D ag (h.nm j hj)];exact Qs hd
theorem WL.args(h:WL K N C m f D pb vb w):∃bo cap,vb=.slice bo m cap/\WX w bo m cap f (Ld D):=by obtain⟨B,ho⟩:=h.own;exact alR h ho λi hi=>⟨i,hi,rfl⟩
theorem WL.fits(h:WL K N C m f D pb vb w):uX m f:=agb (xs:=id) (λi hi=>by have:=h.hm;show i<26;omega) (λi j h1 h2=>by show i≠j;omega) h.nm
theorem WL.alS(h:WL K N C m f D pb vb w):∀j,j<m->(f j).k.length=2/\(f j).l<14:=λj hj=>by obtain⟨B,hd⟩:=h.dat j hj;have h1:=(Qs hd).1;have h2:=h.len j hj;exact⟨by rw[h.nm j hj];rfl,ag⟩
end
theorem alT{n:Nat}{f g:Nat->qX}(hR:qR n f g)(h:uX n f):uX n g:=by
 refine⟨λi hi=>?_,λi j h1 h2 e=>?_⟩
 .obtain⟨j,hj,e⟩:=hR.from hi;rw[e];exact h.1 j hj
 .obtain⟨i',j',a1,a2,a3,a4,a5⟩:=hR.two (i:=i) (j:=j) ag h2 ag;rw[a4,a5]at e;rcases bJ i' j' with qK|Ws
  .exact h.2 i' j' qK a2 e
  .exact h.2 j' i' ag a1 e.symm
theorem agc{n:Nat}{g:Nat->qX}(hS:Srt n g)(h:uX n g):∀i,i+1<n->Hp.lt (g i).k (g (i+1)).k=true:=λi hi=>by
 have h1:=hS i hi;rcases Hp.Hw (g i).k (g (i+1)).k with⟨h2,_,_⟩|⟨h2,_,_⟩|⟨h2,_,_⟩
 .exact h2
 .have h1':Hp.lt (g (i+1)).k (g i).k=false:=h1;rw[h1']at h2;cases h2
 .exact absurd h2 (h.2 i (i+1) ag hi)
theorem Jo{n:Nat}{f g g':Nat->qX}(h:uX n f)(a:qR n f g)(b:qR n f g')(hg:Srt n g)(uO:Srt n g'):∀i,i<n->g' i=g i:=
 adf a b (agc hg (alT a h)) uO
theorem ah8{α:Type}(l:List α)(F:α->Nat)(c:Nat)(h:∀x∈l,F x<=c):(l.map F).sum<=c*l.length:=by
 induction l with
 |nil=>simp
 |cons a l ih=>
  have h1:=h a ax;have h2:=ih λx hx=>h x mM
  simp only[gU,jT,dJ,Nat.mul_succ];omega
theorem Zl{m:Nat}{f g:Nat->qX}(hm:m<=5)(h:∀j,j<m->(f j).k.length=2/\(f j).l<14)(hR:qR m f g):MK (qE m g) (qx m g):=by
 have hg:∀i,i<m->(g i).k.length=2/\(g i).l<14:=λi hi=>by obtain⟨j,hj,e⟩:=hR.from hi;rw[e];exact h j hj
 refine⟨by rw[uC];omega,?_,?_⟩
 .unfold Fv
  have:=ah8 (qx m g) Int.toNat 14 λx hx=>by simp only[qx,gz,fH]at hx;obtain⟨i,hi,rfl⟩:=hx;have:=hg i hi;omega
  rw[xm]at this;omega
 .unfold Jp
  have:=ah8 (qE m g) (λn=>6+n.length) 8 λx hx=>by simp only[qE,gz,fH]at hx;obtain⟨i,hi,rfl⟩:=hx;have:=hg i hi;omega
  rw[uC]at this;omega
section
open Go.Conc
variable {P:aN}{X:Nat->Prop}{Y:Nat->aV}{D:Nat->ah->aH->Prop}{Stop:aG->ah->Prop}{f:aU}{v:ah}
theorem X0(hD0:uU X D){T:aB}{k:b_}{fn:Func}(hf:P.funcs[f]?=some fn)(P8:P.inits.idxOf? f=none){y:ai}(Ce:∀u,(results fn T).runT P u #[]=(.ok y u,#[]))
  (h:∀w d,qQ X Y w v->(∀d',stepG P true (G {Dn none [] f T (.code .ret::k)with mode:=.returning} []) (w.at d')=.ended (.done y) (w.at d') #[])->Stop (G {Dn none [] f T (.code .ret::k)with mode:=.returning} []) (w.at d)):rC P X Y D Stop none [] f [] (.code .ret::k) T v:=by
 intro w hs;refine .next rfl λd=>⟨G {Dn none [] f T (.code .ret::k)with mode:=.returning} [],w.at d,#[],rfl,hD0.nil (az _),?_⟩
 have eA:∀u,stepG P true (G {Dn none [] f T (.code .ret::k)with mode:=.returning} []) u=.ended (.done y) u #[]:=λu=>by have:=Ce u;simp only[G,stepG,unwind,Dn,hf,this,seen_none,doReturn,P8,jm,dC,bQ,GStep.after,Array.append_empty]
 exact .stop λd'=>h w d' hs λd''=>eA _
end
end Go.Proofs.Y
namespace Go.Proofs.Y
open Go.RowKit Go.Deep
theorem adg(k:Nat)(hk:k<=255):b8 (k:Int)=UInt8.ofNat k:=by unfold b8;rw[iH,cu ag]
end Go.Proofs.Y
namespace Go.Proofs.Y
open Go.RowKit Go.Deep Go.Lf Go.Conc Go.Hp
theorem zB{k i:Nat}{x:Nat->Nat}(hi:i<k)(hx:∀j,x j<256):∀n,OG (uB k i) x n=if i<n then x i else 0
 |0=>rfl
 |n+1=>by
  show OG (uB k i) x n^^^mul (uB k i n) (x n)=_;rw[zB hi hx n];have hr:uB k i n=if n=i then 1 else 0:=by unfold uB;rw[ay hi]
  rw[hr];by_cases e:n=i
  .subst e;rw[ay rfl,au ag,ay ag,mul_comm ag (hx n),mul_one (hx n),Nat.zero_xor]
  .rw[au e,zero_mul,nI];by_cases q:i<n
   .rw[ay q,ay ag]
   .rw[au q,au ag]
theorem ah9{k L i m:Nat}{l:ak}(hi:i<k)(hm:m<L):tZ (zW k L l i) m=tZ l (i*L+m):=by have h:=zB (x:=λj=>xAt l L j m) hi (λj=>EG _ _) k;rw[ay hi]at h;unfold zW;simp only[tZ,bH,dO,nO hm,fA,aQ];rw[h];show(UInt8.ofNat (tZ l (i*L+m))).toNat=_;rw[fP,cu (EG _ _)];rfl
theorem alU{l:ak}{i:Nat}(h:l.length<=i):tZ l i=0:=by simp only[tZ,bH];rw[g_ h];rfl
def uy(K N C m:Nat)(f:Nat->qX)(d:qX->ak)(i:Nat):Sh:=⟨K,N,i,C,qE m f,qx m f,zW K (ug K (rE (λj=>d (f j)) m).length) (rE (λj=>d (f j)) m) i⟩
theorem ah_{K N C m i:Nat}{f:Nat->qX}{d:qX->ak}(hP:AQ (K:Int) (N:Int) (C:Int))(hN:xk (qE m f))(hF:MK (qE m f) (qx m f))(hd:∀j,j<m->(d (f j)).length=(f j).l)(hi:i<N):
  (uy K N C m f d i).L8/\(uy K N C m f d i).Listed/\(uy K N C m f d i).Few/\(uy K N C m f d i).OC/\¬(uy K N C m f d i).Bad:=by
 have ht:=GH d f m hd;refine⟨(Sh.aia _).2 ⟨hP,?_,?_⟩,(Sh.adh _).2 (OH hN),(Sh.alV _).2 hF,?_,?_⟩
 .show(0:Int)<=(i:Int);omega
 .show(i:Int)<(N:Int);omega
 .show(zW _ _ _ _).length=ug (K:Int).toNat (Fv (qx m f));rw[yJ,ht];rfl
 .rintro⟨h1,q,h2,h3,h4⟩;have h1':(i:Int)<(K:Int):=h1;have h2':q<(zW K (ug K (rE (λj=>d (f j)) m).length) (rE (λj=>d (f j)) m) i).length:=h2;have h3':Fv (qx m f)<=i*ug K (Fv (qx m f))+q:=h3;rw[yJ]at h2';rw[ht]at h3';refine h4 ?_;show tZ (zW K (ug K (rE (λj=>d (f j)) m).length) (rE (λj=>d (f j)) m) i) q=0;rw[ah9 ag h2',alU h3']
theorem Qu{K N C m i:Nat}{f:Nat->qX}{d:qX->ak}(hK:K<=255)(hN:N<=255)(hi:i<=255):Jq K N C (qE m f) (qx m f) i (zW K (ug K (rE (λj=>d (f j)) m).length) (rE (λj=>d (f j)) m) i)=Jm (uy K N C m f d i):=by unfold Jq Jm uo yD uy;simp only[iH];rw[adg K hK,adg N hN,adg i hi]
theorem Zm{m:Nat}{f:Nat->qX}(hm:m<=5)(h:∀j,j<m->(f j).k=wU j):Srt m f:=by
 intro i hi;rw[h i ag,h (i+1) hi];have:i<4:=ag
 match i,this with
 |0,_=>show Hp.lt (wU (0+1)) (wU 0)=false;decide
 |1,_=>show Hp.lt (wU (1+1)) (wU 1)=false;decide
 |2,_=>show Hp.lt (wU (2+1)) (wU 2)=false;decide
 |3,_=>show Hp.lt (wU (3+1)) (wU 3)=false;decide
theorem X4(l:ak)(en:Nat):∀(c a:Nat)(ns:List (ak))(zs:aA)(e:Nat×Nat),Jr l en c a ns zs=.error e->e.1≠0
 |0,a,ns,zs,e,h=>by unfold Jr at h;cases h
 |c+1,a,ns,zs,e,h=>by
  unfold Jr at h;split at h
  .cases h;simp
  .split at h
   .cases h;simp
   .split at h
    .cases h;simp
    .split at h
     .cases h;simp
     .exact X4 l en c _ _ _ e h
theorem X5(l:ak)(low:Bool)(ch ln:Nat)(en:Int):∀(f a:Nat)(qH:ak)(e:Nat×Nat),yX l low ch ln en f a qH=.error e->e.1≠0
 |0,a,qH,e,h=>by unfold yX at h;cases h
 |f+1,a,qH,e,h=>by
  unfold yX at h;split at h
  .cases h
  .split at h
   .rename_i x hx;cases h;exact ND l _ _ _ hx
   .split at h
    .rename_i x hx;cases h;split at hx
     .exact X7 _ _ _ _ _ hx
     .cases hx
    .exact X5 l low ch ln en f _ _ e h
theorem aaJ{z:ak}{e:Nat×Nat}(h:qY z=.error e):e.1≠0:=by
 unfold qY at h;split at h
 .rename_i x hx;cases h;unfold GI at hx;split at hx
  .rename_i y hy;cases hx;exact((Qv z _ _).or (ND z _ _)) _ hy
  .refine(?_:Wu _) _ hx;unfold UD;exact(((((((GK.or (xO aC)).or (xO aC)).or (xO aC)).or (xO aC)).or (xO aC)).or (xO aC)).or (xO aC)).or (xO aC)
 .split at h
  .rename_i x hx;cases h;unfold EH at hx;split at hx
   .rename_i y hy;cases hx;exact ND z _ _ _ hy
   .split at hx
    .cases hx;simp
    .unfold agd at hx;split at hx
     .rename_i y hy;cases hx;exact X4 z _ _ _ _ _ _ hy
     .split at hx
      .cases hx
      .cases hx;simp
  .split at h
   .split at h
    .rename_i x hx;cases h;exact X5 z _ _ _ _ _ _ _ _ hx
    .split at h
     .rename_i x hx;cases h;exact((Qv z _ _).or (xO aC)) _ hx
     .cases h
   .cases h;simp
