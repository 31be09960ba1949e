import Derived.Test.YtnbflnamlpodcaaGreatDoorEnC
import Derived.Laws.AppendOwnNone
import Derived.Test.YtnbflnamlpodcaaGreatDoorSvE
set_option maxHeartbeats 4000000
set_option maxRecDepth 100000
namespace Go.Proofs.Y
open Go.Proofs.Tryz
open Go.RowKit Go.Deep
def rO(B:Nat)(w:ah)(v:ai)(l:ak):Prop:=w.ownsRow B 5 1 v l.length (sJ l)
theorem rO.of{B n:Nat}{w:ah}{v:ai}{l:ak}(h:w.ownsRow B 5 1 v n (sJ l)):rO B w v l:=by have:n=l.length:=ax6;subst this;exact h
theorem rO.alloc{B:Nat}{w:ah}{v:ai}{l:ak}(h:rO B w v l)(o:Obj):rO B (w.alloc o) v l:=World.ownsRow.alloc h o
def ZR:Obj->Bool
 | .cells _ t _=>t != 5
 |_=>true
structure zf(w w':ah):Prop where
 size:w.heap.size<=w'.heap.size
 same:∀(k:Nat)(o:Obj),w.heap[k]?=some o->ZR o=true->w'.heap[k]?=some o
theorem zf.refl(w:ah):zf w w:=⟨az _,λ_ _ h _=>h⟩
theorem zf.trans{a b c:ah}(h:zf a b)(k:zf b c):zf a c:=⟨bu h.size k.size,λi o hh ht=>k.same i o (h.same i o hh ht) ht⟩
theorem zf.alloc{a w:ah}(h:zf a w)(o:Obj):zf a (w.alloc o):=h.trans ⟨ax,λk o' hh _=>by have hk:k<w.heap.size:=(dh.1 hh).1;exact(dI w o k hk).trans hh⟩
theorem rO.keeps{B:Nat}{w w':ah}{v:ai}{l:ak}(h:rO B w v l)(hg:w.grownBy w' v.ownBlock):zf w w':=⟨hg.size,λk o hh ht=>by
 have hk:k<w.heap.size:=(dh.1 hh).1;rw[hg.block k hk ?_]
 .exact hh
 .intro e;rcases h.2 with⟨rfl,_⟩|⟨g,cap,cur,rfl,_,hb,_⟩
  .cases e
  .cases e;rw[hb]at hh;cases hh;simp[ZR]at ht⟩
theorem ql.Bz{w w':ah}{b:Nat}{cs:aK}{t:aF}(h:ql w b cs t)(hk:zf w w')(ht:t≠5):ql w' b cs t:=hk.same b _ h (by simpa[ZR]using ht)
def afZ(B:Nat)(w:ah)(l:ak)(r:Ending)(w':ah):Prop:=∃v,r=.returned v/\rO B w' v l/\Below B w w'/\zf w w'
theorem zZ(X N:Int)(x n:Nat)(hX:X=x)(hx:x<2^64)(hN:N=n)(hn:n<=8)(B:Nat)(v0:ai)(l:ak)(hl:l.length<2^40)(w:ah)(h0:rO B w v0 l)(hB:B<=w.heap.size):
  Calls prog 45 #[v0,.int .u64 X,.int .i64 N] w λr w'=>afZ B w (l++u_ n x) r w':=by
 subst hX hN;obtain⟨i0,Ak,yz,xA,wH⟩:=dm BJ;go_enter func45,ntmps45;go_wp2
 go_loopw [0,1,8] (λv vv vi wr=>∃c:Nat,c<=n/\vv=.int .u64 ((x/256^c:Nat):Int)/\vi=.int .i64 (c:Int)/\wr.ownsRow B 5 1 v (l.length+c) (sJ (l++u_ c x))/\Below B w wr/\zf w wr) (λ_ _ i _=>n-(intOf i).toNat)
 case atStart=>exact⟨0,ag,ax,rfl,by have:=h0;unfold rO at this;simpa[u_]using this,aT _ _,zf.refl _⟩
 case round=>
  obtain⟨c,hc,rfl,rfl,wS,Om,hkt⟩:=hrel;clear h0;have hsz:=Om.size;by_cases qK:c<n
  .obtain⟨y,ey⟩:∃y,x/256^c=y:=⟨_,rfl⟩;have hy:y<2^64:=by rw[<-ey];exact jw (Nat.div_le_self _ _) hx
   have EQ:Hid (sJ (l++u_ c x)++[.int .u8 ((y%256:Nat):Int)]=sJ (l++u_ (c+1) x)):=aje _ (y%256) ag _ (by rw[abv,ey,fK]);have DV:Hid (y/256=x/256^(c+1)):=by rw[<-ey,aw5,jd];exact rfl
   rw[ey];clear ey hx
   go_wp2_with(at_builtin;refine eP _ rfl _ _ 34 rfl B 5 i0 (.int .u8 0) 1 1 underlying34 Ak yz xA wH rfl aC _ _ _ rfl (wS.alloc _) ⟨wr.heap.size,0,none⟩ 1 1 [.int .u8 ((y%256:Nat):Int)] rfl rfl (cell_one_new _ _ _) (amw _) dB ag aS ?_;intro v2 w2 zh sO _)
   have tX:=(Om.alloc ag (.cells #[Value.int .u8 ((y%256:Nat):Int)] 5)).grown sO aS (λk hk=>(wS.lt k hk).1);have P7:zf w w2:=(hkt.alloc _).trans (rO.keeps (rO.of (wS.alloc _)) sO);clear sO;go_wp2
   go_roundw
   case rel=>exact⟨c+1,ag,by rw[<-DV.out];go_num,bU,by rw[<-EQ.out];exact zh,tX,P7⟩
   case measure=>simp[intOf];omega
  .have e:c=n:=ag;subst e;go_wp2;go_ret;exact⟨_,rfl,rO.of wS,Om,hkt⟩
def Du(w:ah):Prop:=2<w.heap.size/\∀i,i<16->w.cell? ⟨2,i,none⟩=some (.int .u64 ((Gg.getD i 0:Nat):Int))
theorem Du.below{w w':ah}{B:Nat}(h:Du w)(hb:Below B w w')(hB:2<B):Du w':=
 ⟨bG h.1 hb.size,λi hi=>(hb.cell (p:=⟨2,i,none⟩) hB).trans (h.2 i hi)⟩
theorem Du.heap{w w':ah}(h:Du w)(hh:w'.heap=w.heap):Du w':=by refine⟨by rw[hh];exact h.1,λi hi=>?_⟩;have:=h.2 i hi;unfold World.cell? at*;rw[hh];exact this
theorem Yp(bb bo cap:Nat)(l:ak)(hl:l.length<2^60)(w:ah)(hb:Dv w bb bo l)(ht:Du w):
  Calls prog 76 #[.slice (some ⟨bb,bo,none⟩) l.length cap] w λe w'=>e=.returned (.int .u64 (sumOf l:Nat))/\w'=w:=
 amx bb bo l.length cap (l.map UInt8.toNat) ax (λi _=>by rw[abw];exact EG l i) ag w (λi hi=>by rw[abw];exact hb i hi) ht.2
theorem Vd(B:Nat)(v0:ai)(l:ak)(hl:l.length<2^40)(w:ah)(h0:rO B w v0 l)(hB:B<=w.heap.size)(bb bo cap:Nat)(p:ak)(hp:p.length<2^60)(hb:Dv w bb bo p)(ht:Du w):
  Calls prog 46 #[v0,.slice (some ⟨bb,bo,none⟩) p.length cap] w λr w'=>afZ B w (l++u_ 8 (sumOf p)) r w':=by
 have K1:=Yp bb bo cap p hp w hb ht;have hs:=JG p;obtain⟨s,es⟩:∃s,sumOf p=s:=⟨_,rfl⟩;rw[es]at K1 hs⊢;have K2:=zZ (s:Int) 8 s 8 rfl hs rfl ag B v0 l hl w h0 hB;clear h0 hb ht es;go_enter func46,ntmps46
 go_wp2_with(first|(go_at_call 76;refine K1.mono ?_;rintro r w' ⟨rfl,uf⟩;obtain rfl:=uf.symm)|(go_at_call 45;refine K2.mono ?_;rintro r w' ⟨v,rfl,h1,h2,h3⟩))
 go_ret;exact⟨_,rfl,h1,h2,h3⟩
theorem RN(B:Nat)(v0:ai)(l:ak)(hl:l.length<2^40)(hp:0<l.length)(w:ah)(h0:rO B w v0 l)(hB:B<=w.heap.size)(ht:Du w):
  Calls prog 46 #[v0,v0] w λr w'=>afZ B w (rJ l) r w':=by
 obtain⟨g,c,e,_,_,_,_,hb⟩:=A7 h0 hp;have K:=Vd B v0 l hl w h0 hB g 0 c l ag hb ht;rw[<-e]at K;exact K
theorem adI(a b:ak):sJ (a++b)=sJ a++sJ b:=eX
theorem rO.lt{B:Nat}{w:ah}{v:ai}{l:ak}(h:rO B w v l)(k:Nat)(hk:v.ownBlock=some k):B<=k:=(gJ h k hk).1
theorem rO.more{B n m:Nat}{w:ah}{v:ai}{l k:ak}{xs:aK}(h:w.ownsRow B 5 1 v (n+m) (sJ l++xs))(e:xs=sJ k):rO B w v (l++k):=by subst e;rw[<-adI]at h;exact rO.of h
theorem rO.grown{B:Nat}{w w':ah}{v:ai}{l:ak}(h:rO B w v l)(hg:w.grownBy w' v.ownBlock)(hB:B<=w.heap.size):Below B w w':=
 (aT B w).grown hg hB (λk hk=>h.lt k hk)
theorem Lj(ns:List (ak))(zs:di)(i:Nat):(xq ns zs i).length=Dz ns i:=Ib ns zs i
theorem ZQ(vN vS:ai)(ns:List (ak))(zs:di)(Em:U_ ns zs)(hn:ns.length<=1000)(ht:Fv zs<=65536)(w:ah)(h1:qU w vN (xe ns))(h2:qU w vS (Gf zs))(hT:Du w):
  Calls prog 28 #[vN,vS] w λr w'=>∃v,r=.returned v/\rO w.heap.size w' v (rJ (xq ns zs ns.length))/\Below w.heap.size w w':=by
 have K0:=RZ vN ns hn Em.2.1 w h1;obtain⟨i0,Ak,yz,xA,wH⟩:=dm BJ;obtain⟨m,em⟩:∃m,Jp ns=m:=⟨_,rfl⟩;rw[em]at K0
 have hm:m<=1000000:=by exact azz
 obtain⟨w0,Y_,ho0,hg0⟩:=run_make_own (P:=prog) w w.heap.size 34 5 i0 (.int .u8 0) 1 underlying34 Ak yz xA .i64 .i64 (m+8) ik dB (az _);rw[show((m+8:Nat):Int)=(m:Int)+8 by omega]at Y_;have xB:Below w.heap.size w w0:=(aT _ _).grown hg0 (az _) (λk hk=>by cases hk);have hO0:rO w.heap.size w0 (.slice (some ⟨w.heap.size,0,none⟩) 0 (m+8)) []:=rO.of ho0;have K1:=zZ (ns.length:Int) 4 ns.length 4 rfl ag rfl ag w.heap.size _ [] ax w0 hO0 xB.size;obtain⟨ba,cap,rfl,Ci,hc⟩:=id h1;obtain⟨bz,auN,rfl,asx,hcz⟩:=id h2;rw[wL]at Ci K0⊢;rw[FU]at asx⊢;have hlen:Hid (ns.length=zs.length):=Em.1;have HK:Hid (U_ ns zs):=Em;clear ho0 hg0 em h1 h2 Em;go_enter func28,ntmps28
 go_wp2_with(first|(go_at_call 44;refine K0.mono ?_;rintro r w' ⟨rfl,uf⟩;obtain rfl:=uf.symm)|(go_at_call 45;refine K1.mono ?_;rintro r w1 ⟨v1,rfl,UJ,uu,KP⟩))
 have I8:Below w.heap.size w w1:=xB.trans uu;clear K0 K1 Y_ hO0 xB uu;rw[dA]at UJ
 go_loopw [5,6,7,19] (λv _ _ vi wr=>∃c:Nat,c<=ns.length/\vi=.int .i64 (c:Int)/\rO w.heap.size wr v (xq ns zs c)/\Below w.heap.size w wr) (λ_ _ _ i _=>ns.length-(intOf i).toNat)
 case atStart=>exact⟨0,ag,rfl,by simpa[xq]using UJ,I8⟩
 case round=>
  obtain⟨c,Md,rfl,wS,Om⟩:=hrel;clear UJ I8;have hsz:=Om.size;by_cases qK:c<ns.length
  .obtain⟨b,off,rfl,hcell⟩:=hc c _ (GV qK);obtain⟨b2,apb,rfl,WH⟩:=hcz c _ (ZN avz)
   have hl1:(xq ns zs c).length<=1000000:=by have:=BM ns HK.out.2.1 c ag;rw[Lj];omega
   have hsc:=(HK.out.2.1 c qK).1;have hzc:=HK.out.2.2 c avz
   have hz3:(zs.getD c 0).toNat<=65536:=by have:=U9 zs (i:=c+1) avz;rw[Ia]at this;omega
   have MS:Hid _:=Ve ns zs c;obtain⟨s,es⟩:∃s,ns.getD c []=s:=⟨_,rfl⟩;obtain⟨z,ez⟩:∃z:Nat,zs.getD c 0=(z:Int):=⟨(zs.getD c 0).toNat,ag⟩;obtain⟨M,eM⟩:∃M,xq ns zs c=M:=⟨_,rfl⟩;rw[es]at hcell hsc MS;rw[ez]at WH hz3 MS;rw[eM]at hl1 MS wS;rw[iH]at hz3 MS;have hcw:=(Om.cell (p:=⟨b,off+c,none⟩) (rG hcell)).trans hcell;have auc:∀w',Below w.heap.size wr w'->w'.cell? ⟨b2,apb+c,none⟩=some (.int .i64 (z:Int)):=λw' hb=>(hb.cell (p:=⟨b2,apb+c,none⟩) (rG WH)).trans ((Om.cell (p:=⟨b2,apb+c,none⟩) (rG WH)).trans WH)
   have hbs:=Uk s;have K1:=zZ (s.length:Int) 2 s.length 2 rfl ag rfl ag w.heap.size _ M ag wr wS Om.size;have Ns:(c:Int)<(zs.length:Int):=avz;clear es ez eM hcell WH hzc hc hcz ht
   go_wp2_with(first
    |(go_at_call 45;refine K1.mono ?_;clear K1;rintro r w2 ⟨v2,rfl,Ot,tX,P7⟩;have zU:=tX.size)
    |(at_builtin;refine Lib.wpList_append_own_string _ rfl _ _ 34 9 rfl w.heap.size 5 i0 underlying34 underlying9 Ak yz xA wH _ _ _ rfl Ot ⟨s.toArray⟩ rfl (by rw[hbs];simp[ru];unfold maxLen;omega) (by rw[hbs];simp[ru];omega) ag ?_;intro v3 w3 aog alu _;have hO3:rO w.heap.size w3 v3 (M++u_ 2 s.length++s):=rO.more aog (ZT s);have wI:Below w.heap.size wr w3:=tX.trans (Ot.grown alu ag);have hc3:=auc _ wI;have xI:=wI.size;have K2:=zZ (z:Int) 4 z 4 rfl ag rfl ag w.heap.size _ (M++u_ 2 s.length++s) (by simp[ru];omega) w3 hO3 ag;clear aog alu hO3)
    |(go_at_call 45;refine K2.mono ?_;clear K2;rintro r w4 ⟨v4,rfl,hO4,hb4,hk4⟩))
   go_roundw
   case rel=>exact⟨c+1,ag,bU,by rw[MS.out];exact hO4,Om.trans (wI.trans hb4)⟩
   case measure=>simp[intOf];omega
  .obtain rfl:c=ns.length:=ag
   have hl1:(xq ns zs ns.length).length<=1000000:=by have:=BM ns HK.out.2.1 ns.length ag;rw[Lj];omega
   have hl0:0<(xq ns zs ns.length).length:=by rw[Lj];unfold Dz;omega
   have K3:=RN w.heap.size _ (xq ns zs ns.length) ag hl0 wr wS Om.size (hT.below Om hT.1);clear hc hcz hl1 hl0
   go_wp2_with(first|(go_at_call 46;refine K3.mono ?_;rintro r w2 ⟨v2,rfl,Ot,tX,P7⟩))
   go_ret;exact⟨_,rfl,Ot,Om.trans tX⟩
end Go.Proofs.Y
namespace Go.Proofs.Y
open Go.Proofs.Tryz
open Go.RowKit Go.Deep Go.Hp
theorem Tryz.apc:(prog.info? 9).map (λi=>(i.zero,i.size,i.bytes))=some (some (.string ⟨#[]⟩),1,16):=aj
theorem Tryz.apd:(prog.info? 3).map (λi=>(i.zero,i.size,i.bytes))=some (some (.int .i64 0),1,8):=aj
def qE(n:Nat)(f:Nat->qX):List (ak):=(List.range n).map λi=>(f i).k
def qx(n:Nat)(f:Nat->qX):di:=(List.range n).map λi=>((f i).l:Int)
theorem uC(n:Nat)(f:Nat->qX):(qE n f).length=n:=by simp[qE]
theorem xm(n:Nat)(f:Nat->qX):(qx n f).length=n:=by simp[qx]
theorem abx(n:Nat)(f:Nat->qX):xe (qE (n+1) f)=xe (qE n f)++[.string ⟨(f n).k.toArray⟩]:=by simp[xe,qE,dZ]
theorem aby(n:Nat)(f:Nat->qX):Gf (qx (n+1) f)=Gf (qx n f)++[.int .i64 ((f n).l:Int)]:=by simp[Gf,qx,dZ]
theorem ajf(x:ByteArray):∀u∈[Value.string x],u.oneCell'=true:=by intro u hu;simp at hu;subst hu;rfl
theorem ajg(x:Int):∀u∈[Value.int .i64 x],u.oneCell'=true:=by intro u hu;simp at hu;subst hu;rfl
theorem zA(w:ah)(x:ai)(t:aF):∀j u,[x][j]?=some u->(w.alloc (.cells #[x] t)).cell? ((⟨w.heap.size,0,none⟩:Addr).add j)=some u:=by
 intro j u hj
 match j,hj with
 |0,hj=>simp at hj;subst hj;simp[Addr.add]
def ajh(n:Nat)(f:Nat->qX)(w:ah)(r:Ending)(w':ah):Prop:=Below w.heap.size w w'/\∃vn vs,r=.returned (.tuple #[vn,vs])/\w'.ownsRow w.heap.size 9 1 vn n (xe (qE n f))/\w'.ownsRow w.heap.size 3 1 vs n (Gf (qx n f))
theorem Vf{w wa w1:ah}{B t t' s s' n n':Nat}{v v':ai}{xs xs':aK}(h:w.ownsRow B t s v n xs)(h':w.ownsRow B t' s' v' n' xs')(ht:t≠t')(ha:Below w.heap.size w wa)(hg:wa.grownBy w1 v.ownBlock):w1.ownsRow B t' s' v' n' xs':=
 rU h' λg uO=>(hg.block g (bG (h'.lt g uO).2 ha.size) (λe=>D6 h h' ht e.symm uO)).trans (ha.block g (h'.lt g uO).2)
theorem QI{w wa w1:ah}{B h0 t s n:Nat}{v:ai}{xs:aK}(h:w.ownsRow B t s v n xs)(hB:B<=w.heap.size)(ha:Below w.heap.size w wa)(hg:wa.grownBy w1 v.ownBlock)(_:h0<=B):Below B w w1:=
 (ha.mono hB).grown hg (bu hB ha.size) (λx hx=>(h.lt x hx).1)
theorem abt(n cap:Nat)(bo:aY)(f:Nat->qX)(w:ah)(hn:n<=1048576)(hB:BC w bo n f):
  Calls prog 26 #[.slice bo n cap] w λr w'=>ajh n f w r w':=by
 obtain⟨i0,Ak,yz,xA,wH⟩:=dm Tryz.apc;obtain⟨i1,KQ,hy0,hy1,hy2⟩:=dm Tryz.apd;have p0:w.ownsRow w.heap.size 9 1 (.slice none 0 0) 0 (xe (qE 0 f)):=dK _ _ _ _;have q0:w.ownsRow w.heap.size 3 1 (.slice none 0 0) 0 (Gf (qx 0 f)):=dK _ _ _ _;go_enter func26,ntmps26;go_wp2;generalize hh:w.heap.size=h at*
 go_loopw [2,3,8] (λva vb vi wr=>∃(i:Nat),i<=n/\vi=.int .i64 ((i:Nat):Int)/\wr.ownsRow h 9 1 va i (xe (qE i f))/\wr.ownsRow h 3 1 vb i (Gf (qx i f))/\Below h w wr/\h<=wr.heap.size) (λ_ _ vi _=>n-(intOf vi).toNat)
 case atStart=>exact⟨0,ag,rfl,p0,q0,aT _ _,ag⟩
 case round=>
  clear p0 q0;obtain⟨i,hi,rfl,hp,hq,hb,hs⟩:=hrel;by_cases qK:i<n
  .have Am:(i:Int)<(n:Int):=ag;obtain⟨b,o,rfl,L_,hcell⟩:=(hB.below hb ag).here ag;obtain⟨c0,c1⟩:=hcell i qK;clear hcell;obtain⟨e0,e1⟩:=JI wr (f i);have EE:=hp.alloc (.cells #[.string ⟨(f i).k.toArray⟩,.slice (f i).a (f i).l (f i).c] 44);have hq1:=hq.alloc (.cells #[.string ⟨(f i).k.toArray⟩,.slice (f i).a (f i).l (f i).c] 44);have uu:=hb.alloc ag (.cells #[.string ⟨(f i).k.toArray⟩,.slice (f i).a (f i).l (f i).c] 44);have yE:h<=(wr.alloc (.cells #[.string ⟨(f i).k.toArray⟩,.slice (f i).a (f i).l (f i).c] 44)).heap.size:=aS
   have nb:(wr.alloc (.cells #[.string ⟨(f i).k.toArray⟩,.slice (f i).a (f i).l (f i).c] 44)).ownsRow h 44 2 (.slice (some ⟨wr.heap.size,0,none⟩) 1 1) 1 (FM (f i)):=
    ⟨rfl,.inr ⟨wr.heap.size,1,#[.string ⟨(f i).k.toArray⟩,.slice (f i).a (f i).l (f i).c],rfl,hs,fC _ _,ag,dB,rfl,rfl⟩⟩
   simp only[rH,qX.d]at c0 c1;clear hp hq hb;generalize BB:wr.alloc (.cells #[.string ⟨(f i).k.toArray⟩,.slice (f i).a (f i).l (f i).c] 44)=w1 at*
   go_wp2_with(first
    |(at_builtin;refine eP _ rfl _ _ 53 rfl h 9 i0 (.string ⟨#[]⟩) 1 16 underlying53 Ak yz xA wH rfl aC _ _ _ rfl (EE.alloc _) ⟨w1.heap.size,0,none⟩ 1 1 [.string ⟨(f i).k.toArray⟩] rfl rfl (zA _ _ _) (ajf _) dB ag aS ?_;intro v2 w2 CE sO _;have hq2:=Vf EE hq1 aC ((aT w1.heap.size w1).alloc (az _) _) sO;have nb2:=Vf EE nb aC ((aT w1.heap.size w1).alloc (az _) _) sO;have tX:=uu.trans (QI EE yE ((aT w1.heap.size w1).alloc (az _) _) sO (az _));have zU:h<=w2.heap.size:=hh▸tX.size;have e1':w2.cell? ⟨wr.heap.size,1,none⟩=some (.slice (f i).a (f i).l (f i).c):=nb2.cellAt 1 ag;clear sO EE hq1 nb uu e0 e1 c0 c1)
    |(at_builtin;refine eP _ rfl _ _ 22 rfl h 3 i1 (.int .i64 0) 1 8 underlying22 KQ hy0 hy1 hy2 rfl aC _ _ _ rfl (hq2.alloc _) ⟨w2.heap.size,0,none⟩ 1 1 [.int .i64 ((f i).l:Int)] rfl rfl (zA _ _ _) (ajg _) dB ag aS ?_;intro v3 w3 hq3 sO _;have hp3:=Vf hq2 CE aC ((aT w2.heap.size w2).alloc (az _) _) sO;have wI:=tX.trans (QI hq2 zU ((aT w2.heap.size w2).alloc (az _) _) sO (az _));clear sO hq2 CE tX e1'))
   go_roundw
   case rel=>exact⟨i+1,ag,bU,by rw[abx];exact hp3,by rw[aby];exact hq3,wI,hh▸wI.size⟩
   case measure=>simp[intOf];omega
  .obtain rfl:i=n:=ag;have Hg:¬((i:Int)<(i:Int)):=ag;go_wp2;go_ret2;exact⟨awK,_,_,rfl,by rw[hh];exact hp,by rw[hh];exact hq⟩
theorem af_(b o j:Nat):(⟨b,o,none⟩:Addr).add j=⟨b,o+j,none⟩:=by
 simp only[Addr.add];split
 .rename_i h;subst h;rfl
 .rfl
def zn(w:ah)(e:qX)(d:ak):Prop:=d.length=e.l/\((e.a=none/\e.l=0/\e.c=0)\/∃ad:Addr,e.a=some ad/\∀j u,(sJ d)[j]?=some u->w.cell? (ad.add j)=some u)
theorem zn.below{w w':ah}{e:qX}{d:ak}{B:Nat}(h:zn w e d)(hb:Below B w w')(hB:w.heap.size<=B):zn w' e d:=by
 refine⟨h.1,?_⟩;rcases h.2 with h2|⟨ad,h2,h4⟩
 .exact .inl h2
 .exact .inr ⟨ad,h2,λj u hj=>(hb.cell (p:=ad.add j) (bG (rG (h4 j u hj)) hB)).trans (h4 j u hj)⟩
def rE(D:Nat->ak):Nat->ak
 |0=>[]
 |n+1=>rE D n++D n
theorem aji(l:ak):∀u∈sJ l,u.oneCell'=true:=by intro u hu;simp[sJ]at hu;obtain⟨_,_,rfl⟩:=hu;rfl
theorem ajj(D:Nat->ak){i n:Nat}(h:i<=n):(rE D i).length<=(rE D n).length:=by
 induction n with
 |zero=>obtain rfl:i=0:=by omega
        exact az _
 |succ n ih=>
  by_cases e:i=n+1
  .rw[e];exact az _
  .have:=ih ag;simp only[rE,bK];omega
theorem ajc(n cap:Nat)(bo:aY)(f:Nat->qX)(D:Nat->ak)(w:ah)(hn:n<=1048576)(hB:BC w bo n f)(hD:∀i,i<n->zn w (f i) (D i))(ht:(rE D n).length<=1048576):
  Calls prog 30 #[.slice bo n cap] w λr w'=>Below w.heap.size w w'/\∃v,r=.returned v/\rO w.heap.size w' v (rE D n):=by
 obtain⟨i0,Ak,yz,xA,wH⟩:=dm BJ;have p0:w.ownsRow w.heap.size 5 1 (.slice none 0 0) (rE D 0).length (sJ (rE D 0)):=dK _ _ _ _;go_enter func30,ntmps30;go_wp2;generalize hh:w.heap.size=h at*
 go_loopw [3,8] (λva vi wr=>∃(i:Nat),i<=n/\vi=.int .i64 ((i:Nat):Int)/\wr.ownsRow h 5 1 va (rE D i).length (sJ (rE D i))/\Below h w wr/\h<=wr.heap.size) (λ_ vi _=>n-(intOf vi).toNat)
 case atStart=>exact⟨0,ag,rfl,p0,aT _ _,ag⟩
 case round=>
  clear p0;obtain⟨i,hi,rfl,hp,hb,hs⟩:=hrel;by_cases qK:i<n
  .have Am:(i:Int)<(n:Int):=ag;obtain⟨b,o,rfl,L_,hcell⟩:=(hB.below hb ag).here ag;obtain⟨c0,c1⟩:=hcell i qK;have hd:=(hD i qK).below hb ag
   have hlen:(rE D i).length+(D i).length<=1048576:=by have:=ajj D (i:=i+1) (n:=n) ag;simp only[rE,bK]at this;omega
   clear hcell;obtain⟨e0,e1⟩:=JI wr (f i);have EE:=hp.alloc (.cells #[.string ⟨(f i).k.toArray⟩,.slice (f i).a (f i).l (f i).c] 44);have uu:=hb.alloc ag (.cells #[.string ⟨(f i).k.toArray⟩,.slice (f i).a (f i).l (f i).c] 44);have hd1:=hd.below ((aT wr.heap.size wr).alloc (az _) (.cells #[.string ⟨(f i).k.toArray⟩,.slice (f i).a (f i).l (f i).c] 44)) (az _);have yE:h<=(wr.alloc (.cells #[.string ⟨(f i).k.toArray⟩,.slice (f i).a (f i).l (f i).c] 44)).heap.size:=aS;simp only[rH,qX.d]at c0 c1;clear hp hb hd;rcases hd1 with⟨hdl,hd1⟩;rcases hd1 with⟨ea,el,ec⟩|⟨ad,ea,hcd⟩
   .have anL:D i=[]:=lY.1 ag;rw[ea,el,ec]at EE uu yE e0 e1 c1;clear hdl;clear ea el ec
    go_wp2_with(at_builtin;go_loud (refine wpList_append_own_none rfl _ _ 34 rfl h 5 i0 1 underlying34 Ak _ _ _ rfl EE rfl ?_))
    go_roundw
    case rel=>exact⟨i+1,ag,bU,by simp only[rE,anL,d_];exact EE,uu,yE⟩
    case measure=>simp[intOf];omega
   .rw[ea]at EE uu yE e0 e1 c1 hcd;clear ea;generalize BB:wr.alloc (.cells #[.string ⟨(f i).k.toArray⟩,.slice (some ad) (f i).l (f i).c] 44)=w1 at*
    go_wp2_with(at_builtin;go_loud (refine eP _ rfl _ _ 34 rfl h 5 i0 (.int .u8 0) 1 1 underlying34 Ak yz xA wH rfl aC _ _ _ rfl EE ad (f i).l (f i).c (sJ (D i)) rfl (by simp[sJ];omega) (λj u hj=>hcd j u hj) (aji _) dB ag yE ?_;intro v2 w2 CE sO _))
    have tX:=uu.trans (QI EE yE (aT _ _) sO (az _));clear sO EE uu
    go_roundw
    case rel=>exact⟨i+1,ag,bU,by rw[show(rE D (i+1)).length=(rE D i).length+(f i).l by simp[rE,hdl],show sJ (rE D (i+1))=sJ (rE D i)++sJ (D i)by simp[rE,sJ]];exact CE,tX,hh▸tX.size⟩
    case measure=>simp[intOf];omega
  .obtain rfl:i=n:=ag;have Hg:¬((i:Int)<(i:Int)):=ag;go_wp2;go_ret;exact⟨hb,_,rfl,hp⟩
end Go.Proofs.Y
namespace Go.Hp
def Srt(n:Nat)(f:Nat->qX):Prop:=∀i,i+1<n->le (f i).k (f (i+1)).k
structure MS(h m:Nat)(f L R:Nat->qX)(i j:Nat)(out:Nat->qX):Prop where
 re:qR (h+m) f (λx=>if x<i+j then out x else if x<j+h then L (x-j)else R (x-h))
 so:Srt (i+j) out
 lo:0<i+j->∀x,i<=x->x<h->le (out (i+j-1)).k (L x).k
 hi:0<i+j->∀x,j<=x->x<m->le (out (i+j-1)).k (R x).k
theorem amy{n:Nat}{s:Nat->Nat}(hs:∀i,i<n->s i<n)(hm:∀i,i+1<n->s i<s (i+1)):∀i,i<n->s i=i:=by
 have h1:∀i,i<n->i<=s i:=by
  intro i
  induction i with
  |zero=>intro _;omega
  |succ i ih=>intro hi;have:=ih ag;have:=hm i hi;omega
 have h2:∀d i,i+d+1=n->s i<=i:=by
  intro d
  induction d with
  |zero=>intro i hi;have:=hs i ag;omega
  |succ d ih=>intro i hi;have:=ih (i+1) ag;have:=hm i ag;omega
 intro i hi;have:=h1 i hi;have:=h2 (n-i-1) i ag;omega
theorem adf{n:Nat}{f g g':Nat->qX}(a:qR n f g)(b:qR n f g')(hg:∀i,i+1<n->lt (g i).k (g (i+1)).k=true)(uO:Srt n g'):∀i,i<n->g' i=g i:=by
 obtain⟨s,t,h1,h2⟩:=a.symm.trans b
 have far:∀d i,i+d+1<n->lt (g i).k (g (i+d+1)).k=true:=by
  intro d
  induction d with
  |zero=>intro i hi;exact hg i hi
  |succ d ih=>intro i hi;exact lt_trans (ih i ag) (hg (i+d+1) ag)
 have hm:∀i,i+1<n->s i<s (i+1):=by
  intro i hi;rcases oQ (s i) (s (i+1))with h|h|h
  .exact h
  .have e1:=(h1 i ag).2.2.1;have e2:=(h1 (i+1) hi).2.2.1;rw[h,e2]at e1;omega
  .have q:=far (s i-s (i+1)-1) (s (i+1)) (by have:=(h1 i ag).1;omega);rw[show s (i+1)+(s i-s (i+1)-1)+1=s i by omega]at q;have:=uO i hi;rw[h2 i ag,h2 (i+1) hi]at this;unfold Hp.le at this;rw[this]at q;cases q
 have hid:=amy (λi hi=>(h1 i hi).1) hm;intro i hi;rw[h2 i hi,hid i hi]
end Go.Hp
namespace Go.Proofs.Y
open Go.Proofs.Tryz
open Go.RowKit Go.Deep Go.Hp
theorem BC.ae2{w:ah}{B n:Nat}{v:ai}{f:Nat->qX}(h:w.ownsRow B 44 2 v n (xn n f)):∃bo cap,v=.slice bo n cap/\n<=cap/\(bo=none->cap=0)/\BC w bo n f:=by
 rcases h.2 with⟨rfl,rfl⟩|⟨g,cap,cur,rfl,h2,h3,h4,_⟩
 .exact⟨none,0,rfl,az _,λ_=>rfl,⟨λh0=>absurd h0 ag⟩⟩
 .refine⟨_,cap,rfl,h4,(λe=>nomatch e),⟨λ_=>⟨g,0,rfl,(h.lt g rfl).2,λi hi=>?_⟩⟩⟩;have q0:=h.cellAt (i*2) ag;have q1:=h.cellAt (i*2+1) ag;rw[show i*2=i*2+0 from rfl,GX n f i 0 hi ag]at q0;rw[GX n f i 1 hi ag]at q1;rw[bM];exact⟨q0,q1⟩
def OG(r x:Nat->Nat):Nat->Nat
 |0=>0
 |j+1=>OG r x j^^^mul (r j) (x j)
theorem Ul{r x:Nat->Nat}(hr:∀j,r j<256):∀n,OG r x n<256
 |0=>by simp[OG]
 |n+1=>iQ (n:=8) (Ul hr n) (mul_lt (hr n))
structure Cls(w:ah)(k L bP:Nat)(a:Nat->aY)(bl cp:Nat->Nat)(x:Nat->Nat->Nat):Prop where
 qH:∀j,j<k->w.cell? ⟨bP,j,none⟩=some (.slice (a j) L (cp j))
 at_:∀j m,j<k->m<L->a j=some ⟨bl j,0,none⟩/\w.cell? ⟨bl j,m,none⟩=some (.int .u8 ((x j m:Nat):Int))
theorem Vb{w w':ah}{B:Nat}(h:Below B w w')(hB:w.heap.size<=B){b o:Nat}{u:ai}(hc:w.cell? ⟨b,o,none⟩=some u):w'.cell? ⟨b,o,none⟩=some u:=
 (h.cell (p:=⟨b,o,none⟩) (bG (rG hc) hB)).trans hc
def aiN(n:Nat)(f:Nat->Nat):aK:=(List.range n).map λj=>.int .u8 ((f j:Nat):Int)
end Go.Proofs.Y
namespace Go.Proofs.Y
open Go.Proofs.Tryz
open Go.RowKit Go.Deep
end Go.Proofs.Y
namespace Go.Proofs.Y
open Go.Proofs.Tryz
open Go.RowKit Go.Deep Go.Hp
theorem zn.grow{w w':ah}{e:qX}{d:ak}(h:zn w e d)(_hs:w.heap.size<=w'.heap.size)(up:∀{b o:Nat}{u:ai},w.cell? ⟨b,o,none⟩=some u->w'.cell? ⟨b,o,none⟩=some u):zn w' e d:=by
 refine⟨h.1,?_⟩;rcases h.2 with h2|⟨ad,h2,h4⟩
 .exact .inl h2
 .refine .inr ⟨ad,h2,λj u hj=>?_⟩;have h5:=h4 j u hj;have acZ:=World.cell?_spot h5;generalize ad.add j=p at h5 acZ⊢;obtain⟨b,o,sp⟩:=p;dsimp only at acZ;subst acZ;exact up h5
theorem BC.up{w w':ah}{bo:aY}{n:Nat}{f:Nat->qX}(h:BC w bo n f)(hs:w.heap.size<=w'.heap.size)(up:∀{b o:Nat}{u:ai},w.cell? ⟨b,o,none⟩=some u->w'.cell? ⟨b,o,none⟩=some u):BC w' bo n f:=⟨λhn=>by obtain⟨b,o,h1,h2,h3⟩:=h.here hn;exact⟨b,o,h1,bG h2 hs,λi hi=>⟨up (h3 i hi).1,up (h3 i hi).2⟩⟩⟩
def xAt(l:ak)(L j m:Nat):Nat:=tZ l (j*L+m)
theorem cell_of_block{w:ah}{b m:Nat}{cur:aB}{t:aF}{u:ai}(h:w.heap[b]?=some (.cells cur t))(hc:cur[m]?=some u):w.cell? ⟨b,m,none⟩=some u:=by simp[World.cell?,h,hc]
theorem QH{w:ah}{B t n:Nat}{v:ai}{xs:aK}(h:w.ownsRow B t 1 v n xs):qU w v xs:=by
 have hl:=h.1;rcases h.2 with⟨rfl,rfl⟩|⟨g,cap,cur,rfl,h2,h3,h4,_⟩
 .have:xs=[]:=lY.1 ag;subst this;exact⟨none,0,rfl,az _,λj u hj=>by simp at hj⟩
 .have e:n=xs.length:=ag;refine⟨some ⟨g,0,none⟩,cap,lg,ag,λj u hj=>⟨g,0,rfl,?_⟩⟩
  have Oq:j<n*1:=by have:=(fJ.1 hj).1;omega
  rw[bM,h.cellAt j Oq];exact hj
theorem GH(d:qX->ak)(f:Nat->qX):∀n,(∀i,i<n->(d (f i)).length=(f i).l)->Fv (qx n f)=(rE (λj=>d (f j)) n).length
 |0,_=>rfl
 |n+1,h=>by
  have ih:=GH d f n λi hi=>h i ag
  have e:qx (n+1) f=qx n f++[((f n).l:Int)]:=by simp[qx,dZ]
  rw[e];unfold Fv at*;simp only[jh,iU,gU,jU,jT,nN,rE,bK,h n ag,ih];simp
theorem ajk(n:Nat)(f:Nat->qX):O0 (qx n f):=λi hi=>by rw[xm]at hi;simp[qx,hi]
theorem GY(n:Nat)(f:Nat->qX){i:Nat}(hi:i<n):(qE n f).getD i []=(f i).k:=by simp[qE,hi]
theorem R_{a b:ak}:Vg a b=false↔Hp.lt b a=true:=by
 have e:∀x y:ak,Op.bytesLess x y=Hp.lt x y:=λ_ _=>rfl
 unfold Vg;rw[e];rcases Hp.Hw a b with⟨g,h,n⟩|⟨g,h,n⟩|⟨rfl,h,_⟩
 .rw[g,h];simp
 .rw[g,h];simp[n]
 .rw[h];simp
theorem ZU{n:Nat}{g:Nat->qX}(h:xk (qE n g)):∀i,i+1<n->Hp.lt (g i).k (g (i+1)).k=true:=λi hi=>by
 have hl:(qE n g).length=n:=by simp[qE]
 have:=(h (i+1) ag).2 ag;rw[GY n g hi,iF,GY n g ag]at this;exact R_.1 this
theorem Yg{n:Nat}{f g:Nat->qX}(hR:qR n f g)(hS:Srt n g):xk (qE n g)↔uX n f:=by
 have hl:(qE n g).length=n:=by simp[qE]
 constructor
 .intro h;refine⟨λi hi=>?_,abp hR (ZU h)⟩;obtain⟨j,hj,e⟩:=hR.symm.from hi;have:=(h j ag).1;rw[GY n g hj,<-e]at this;exact this
 .rintro⟨h1,h2⟩ i hi;rw[hl]at hi;rw[GY n g hi];refine⟨?_,λh0=>?_⟩
  .obtain⟨j,hj,e⟩:=hR.from hi;rw[e];exact h1 j hj
  .rw[GY n g ag,R_];have hle:=hS (i-1) ag;rw[show i-1+1=i by omega]at hle;refine Hp.lt_of_le_ne hle λe=>?_
   obtain⟨x,y,hx,hy,hne,e1,e2⟩:=hR.two (i:=i-1) (j:=i) ag hi ag;rw[e1,e2]at e;rcases bJ x y with q|q
   .exact h2 x y q hy e
   .exact h2 y x ag hx e.symm
theorem OH{n:Nat}{g:Nat->qX}(h:xk (qE n g)):U_ (qE n g) (qx n g):=⟨by simp[qE,qx],h,ajk n g⟩
theorem NK{n:Nat}{g g':Nat->qX}(h:∀i,i<n->g' i=g i):qE n g'=qE n g:=jW λi hi=>axE
theorem NL{n:Nat}{g g':Nat->qX}(h:∀i,i<n->g' i=g i):qx n g'=qx n g:=jW λi hi=>axE
theorem Lt{d:qX->ak}{g g':Nat->qX}:∀n,(∀i,i<n->g' i=g i)->rE (λj=>d (g' j)) n=rE (λj=>d (g j)) n
 |0,_=>rfl
 |n+1,h=>by
  show _++_=_++_;rw[Lt n λi hi=>h i ag]
  congr 1
  show d (g' n)=d (g n);rw[h n ag]
def zW(k L:Nat)(l:ak)(t:Nat):ak:=(List.range L).map λm=>UInt8.ofNat (OG (uB k t) (λj=>xAt l L j m) k)
theorem yJ(k L:Nat)(l:ak)(t:Nat):(zW k L l t).length=L:=by simp[zW]
theorem aoT(k L:Nat)(l:ak)(t:Nat):sJ (zW k L l t)=aiN L λm=>OG (uB k t) (λj=>xAt l L j m) k:=by
 unfold zW sJ aiN;rw[jV];refine jW λm _=>?_
 show Value.int .u8 (((UInt8.ofNat _).toNat:Nat):Int)=_;rw[fP,cu (Ul (λ_=>D7) k)]
def Jq(k n c:Nat)(ns:List (ak))(zs:di)(i:Nat)(qH:ak):ak:=
 rJ ([67,65,73,82,78,49]++([UInt8.ofNat k,UInt8.ofNat n,UInt8.ofNat i,0]++(u_ 4 c++(u_ 4 (xq ns zs ns.length).length++(u_ 4 qH.length++[0,0])))))++rJ (xq ns zs ns.length)++su c qH (Hu c qH.length)++[68,79,78,69]
