import Derived.Test.YtnbflnamlpodcaaGreatDoorHpD
import Derived.StillTailTactics
set_option maxHeartbeats 4000000
set_option maxRecDepth 100000
namespace Go.Proofs.Y
open Go.RowKit Go.Deep Go.Hp
theorem amP(B h n:Nat)(f:Nat->qY)(v:Value)(w:World)(H:HA B h n f v w):
  Calls Tryz.prog 24 #[.pointer (some ⟨h,0,none⟩)] w λr w'=>r=.returned (.int .i64 ((n:Nat):Int))/\w'=w:=by
 have a0:=H.var.cell (i:=0) ae
 obtain⟨bo,cap,rfl⟩:∃bo cap,v=.slice bo n cap:=by exact awO
 clear H;go_enter Tryz.func24,Tryz.ntmps24;exact awx
theorem ag3{w:World}{B n g cap:Nat}{f:Nat->qY}(h:w.ownsRow B 97 3 (.slice (some ⟨g,0,none⟩) (n+1) cap) (n+1) (Ji (n+1) f)):w.ownsRow B 97 3 (.slice (some ⟨g,0,none⟩) n cap) n (Ji n f):=by
 refine⟨wo n f,.inr ?_⟩;rcases h.2 with⟨h1,_⟩|⟨g',aco,cur,h1,h2,h3,h4,h5,h6,h7⟩
 .cases h1
 .cases h1;refine⟨g,cap,cur,rfl,h2,h3,ae,h5,h6,?_⟩;have:=aP (List.take (n*3)) h7;rw[List.take_take,nJ ae,Gn,at7 mY]at this;rw[this,iF mY]
def Oc(n:Nat)(f:Nat->qY)(x:Nat):qY:=if x=0 then f n else f x
theorem aj9{n:Nat}{f:Nat->qY}(h:Hp f (n+1)):abk (Oc n f) n 0:=
 ⟨λc h0 hc hne=>by unfold Oc;rw[ah hne,ah ae];exact h c h0 ae,λc _ _ _ h0=>absurd h0 ae⟩
def amB(B h n:Nat)(f:Nat->qY)(v:Value)(w:World)(r:Ending)(w':World):Prop:=r=.returned (.agg #[ry (f 0).k,(f 0).d])/\∃f' v',HA B h n f' v' w'/\qN n (Oc n f) f'/\Hp f' n/\Below h w w'/\B<=w'.heap.size/\∀b,b<w.heap.size->b≠h->some b≠v.ownBlock->w'.heap[b]?=w.heap[b]?
theorem amQ(B h n:Nat)(f:Nat->qY)(v:Value)(w:World)(H:HA B h (n+1) f v w)(hB:B<=w.heap.size)(hn:n<=1048576)(hp:Hp f (n+1)):
  Calls Tryz.prog 25 #[.pointer (some ⟨h,0,none⟩)] w λr w'=>amB B h n f v w r w':=by
 obtain⟨g,cap,rfl,hg,hnc,sF⟩:=H.form ae;have Xe:cap<=9223372036854775807:=sF;clear sF;have uy:=H.low
 have nR:(w.alloc (.cells #[.string ⟨#[]⟩,.slice none 0 0] 44)).rowIs w.heap.size 44 2 (λj=>if j=0 then .string ⟨#[]⟩else .slice none 0 0):=
  World.rowIs_alloc w #[.string ⟨#[]⟩,.slice none 0 0] 44 _ (λi hi=>by have:i=0\/i=1:=iK;rcases this with rfl|rfl<;>rfl)
 have H0:HA B h (n+1) f (.slice (some ⟨g,0,none⟩) (n+1) cap) (w.alloc (.cells #[.string ⟨#[]⟩,.slice none 0 0] 44)):=⟨H.var.alloc _,H.own.alloc _,H.low⟩;have b0:Below h w (w.alloc (.cells #[.string ⟨#[]⟩,.slice none 0 0] 44)):=(aA _ _).alloc ae _;have s0:(w.alloc (.cells #[.string ⟨#[]⟩,.slice none 0 0] 44)).heap.size=w.heap.size+1:=ai;clear H;generalize L9:w.alloc (.cells #[.string ⟨#[]⟩,.slice none 0 0] 44)=w0 at*
 have n1:(w0.alloc (.cells #[ry (f 0).k,(f 0).d] 44)).rowIs (w.heap.size+1) 44 2 (λj=>if j=0 then ry (f 0).k else(f 0).d):=by
  rw[<-s0]
  exact World.rowIs_alloc w0 #[ry (f 0).k,(f 0).d] 44 _ (λi hi=>by have:i=0\/i=1:=iK;rcases this with rfl|rfl<;>rfl)
 have nR1:=nR.alloc (.cells #[ry (f 0).k,(f 0).d] 44);have H1:HA B h (n+1) f (.slice (some ⟨g,0,none⟩) (n+1) cap) (w0.alloc (.cells #[ry (f 0).k,(f 0).d] 44)):=⟨H0.var.alloc _,H0.own.alloc _,H0.low⟩;have b1:=b0.alloc ae (.cells #[ry (f 0).k,(f 0).d] 44);have s1:(w0.alloc (.cells #[ry (f 0).k,(f 0).d] 44)).heap.size=w.heap.size+2:=az;have a0:=H0.var.cell (i:=0) ae;obtain⟨c0,c1,c2⟩:=H0.at 0 ae;have a1:=H1.var.cell (i:=0) ae;obtain⟨d0,d1,d2⟩:=H1.at n ae;obtain⟨e0,_,_⟩:=H1.at 0 ae;simp only[fH,aT]at c0 c1 c2 e0;have o0:=H1.own;have ex:∀{w:World}{xs:List Value},w.ownsRow B 97 3 (.slice (some ⟨g,0,none⟩) (n+1) cap) (n+1) xs->∀p,p<(n+1)*3->∃y,w.cell? ⟨g,p,none⟩=some y:=λ{w xs} o p hp=>⟨xs[p]' auP,auO⟩;have z0:=o0.frozenAt 0;have o1:=(o0.stored 0 (ry (f n).k)).1;obtain⟨y1,e1⟩:=ex o1 1 ae;have z1:=o1.frozenAt 1;have o2:=(o1.stored 1 (ry (f n).k)).1;obtain⟨y2,e2⟩:=ex o2 2 ae;have z2:=o2.frozenAt 2;have o3:=(o2.stored 2 (f n).d).1;have Xa:=UU (n+1) f 0 ae (f n);simp only[fH,aT]at Xa;rw[Xa]at o3;have hgh:h≠g:=ae
 have hgR:w.heap.size≠g:=by
  have:=(H0.own.lt g rfl).2;intro e;subst e;rcases nR with⟨cR,q1,q2,_⟩;rcases H0.own.2 with⟨q,_⟩|⟨g',aco,cur,q,_,q3,_⟩
  .cases q
  .cases q;rw[q1]at q3;cases q3
 have hgF:w.heap.size+1≠g:=by have:=(H0.own.lt g rfl).2;omega
 have H2:HA B h (n+1) (Oc n f) (.slice (some ⟨g,0,none⟩) (n+1) cap) ((((w0.alloc (.cells #[ry (f 0).k,(f 0).d] 44)).setCell ⟨g,0,none⟩ (ry (f n).k)).setCell ⟨g,1,none⟩ (ry (f n).k)).setCell ⟨g,2,none⟩ (f n).d):=
  ⟨((H1.var.setOther (a:=⟨g,0,none⟩) hgh _).setOther (a:=⟨g,1,none⟩) hgh _).setOther (a:=⟨g,2,none⟩) hgh _,o3,H1.low⟩
 have n2:=((n1.setOther (a:=⟨g,0,none⟩) hgF (ry (f n).k)).setOther (a:=⟨g,1,none⟩) hgF (ry (f n).k)).setOther (a:=⟨g,2,none⟩) hgF (f n).d;have nR2:=((nR1.setOther (a:=⟨g,0,none⟩) hgR (ry (f n).k)).setOther (a:=⟨g,1,none⟩) hgR (ry (f n).k)).setOther (a:=⟨g,2,none⟩) hgR (f n).d;have b2:=((b1.setCell (p:=⟨g,0,none⟩) (show h<=g by omega) (ry (f n).k)).setCell (p:=⟨g,1,none⟩) (show h<=g by omega) (ry (f n).k)).setCell (p:=⟨g,2,none⟩) (show h<=g by omega) (f n).d
 have f2:∀b,b<w.heap.size->b≠g->((((w0.alloc (.cells #[ry (f 0).k,(f 0).d] 44)).setCell ⟨g,0,none⟩ (ry (f n).k)).setCell ⟨g,1,none⟩ (ry (f n).k)).setCell ⟨g,2,none⟩ (f n).d).heap[b]?=w.heap[b]?:=λb hb hne=>by rw[bF _ _ _ _ hne,bF _ _ _ _ hne,bF _ _ _ _ hne,bM _ _ _ ae,<-L9,bM _ _ _ hb]
 have s2:((((w0.alloc (.cells #[ry (f 0).k,(f 0).d] 44)).setCell ⟨g,0,none⟩ (ry (f n).k)).setCell ⟨g,1,none⟩ (ry (f n).k)).setCell ⟨g,2,none⟩ (f n).d).heap.size=w.heap.size+2:=az;clear o0 o1 o2 o3 Xa ex H1 n1 nR1 b1 s1 nR b0;have ed:((n:Int)+1)-1=(n:Int):=ae;have GH:(n:Int)<((n+1:Nat):Int):=ae;have BD:(n:Int)<=(cap:Int):=ae;go_enter Tryz.func25,Tryz.ntmps25;simp only[ry,qY.d]at*;go_wp2;subst L9;go_region;clear a0 c0 c1 c2 a1 d0 d1 d2 e0 e1 e2 z0 z1 z2 H0 s0 y1 y2;generalize((((w.alloc (.cells #[.string ⟨#[]⟩,.slice none 0 0] 44)).alloc (.cells #[.string ⟨(f 0).k.toArray⟩,.slice (f 0).a (f 0).l (f 0).c] 44)).setCell ⟨g,0,none⟩ (.string ⟨(f n).k.toArray⟩)).setCell ⟨g,1,none⟩ (.string ⟨(f n).k.toArray⟩)).setCell ⟨g,2,none⟩ (.slice (f n).a (f n).l (f n).c)=W2 at*;replace H2:HA B h (n+1) (Oc n f) (.slice (some ⟨g,0,none⟩) (n+1) cap) W2.drew:=⟨H2.var,H2.own,H2.low⟩;replace n2:W2.drew.rowIs (w.heap.size+1) 44 2 (λj=>if j=0 then .string ⟨(f 0).k.toArray⟩else .slice (f 0).a (f 0).l (f 0).c):=n2;replace nR2:W2.drew.rowIs w.heap.size 44 2 (λj=>if j=0 then .string ⟨#[]⟩else .slice none 0 0):=nR2;replace b2:Below h w W2.drew:=⟨b2.os,b2.tape,b2.output,b2.size,b2.block⟩;replace s2:W2.drew.heap.size=w.heap.size+2:=s2;replace f2:∀b,b<w.heap.size->b≠g->W2.drew.heap[b]?=w.heap[b]?:=f2;generalize W2.drew=W3 at*;have g0:=H2.var.cell (i:=0) ae;have g1:=H2.var.frozen 0
 have H3:HA B h n (Oc n f) (.slice (some ⟨g,0,none⟩) n cap) (W3.setCell ⟨h,0,none⟩ (.slice (some ⟨g,0,none⟩) n cap)):=
  ⟨(H2.var.set 0 (.slice (some ⟨g,0,none⟩) n cap)).congr λi hi=>pG,dF (ag3 H2.own) (a:=⟨h,0,none⟩) uy _,uy⟩
 have n3:=n2.setOther (a:=⟨h,0,none⟩) (show w.heap.size+1≠h by omega) (.slice (some ⟨g,0,none⟩) n cap);have nR3:=nR2.setOther (a:=⟨h,0,none⟩) (show w.heap.size≠h by omega) (.slice (some ⟨g,0,none⟩) n cap);have b3:=b2.setCell (p:=⟨h,0,none⟩) (ak _) (.slice (some ⟨g,0,none⟩) n cap);have s3:(W3.setCell ⟨h,0,none⟩ (.slice (some ⟨g,0,none⟩) n cap)).heap.size=w.heap.size+2:=by simp;exact s2
 have k5:=Zj B h n 0 (Oc n f) _ _ H3 ae (.inr rfl) (aj9 hp);rw[show((0:Nat):Int)=0 from rfl]at k5;clear H2 n2 nR2 b2 s2
 go_wp2_with(first|(go_at_call 42;(with_reducible refine k5.mono ?_);rintro r W5 ⟨rfl,f',H5,hR5,hp5,RF⟩;have n5:=n3.of_block (RF.block (w.heap.size+1) ae (λe=>hgF (eU e)));have nR5:=nR3.of_block (RF.block w.heap.size ae (λe=>hgR (eU e)));have q0:=n5.cell (i:=0) ae;have q1:=n5.cell (i:=1) ae;have q2:=nR5.cell (i:=0) ae;have q3:=nR5.frozen 0;have q4:=(nR5.set 0 (.string ⟨(f 0).k.toArray⟩)).cell (i:=1) ae;have q5:=(nR5.set 0 (.string ⟨(f 0).k.toArray⟩)).frozen 1;simp only[aF,jJ,aU]at q0 q1 q2 q4))
 have hr6:=(nR5.set 0 (.string ⟨(f 0).k.toArray⟩)).set 1 (.slice (f 0).a (f 0).l (f 0).c)
 have H6:HA B h n f' (.slice (some ⟨g,0,none⟩) n cap) ((W5.setCell ⟨w.heap.size,0,none⟩ (.string ⟨(f 0).k.toArray⟩)).setCell ⟨w.heap.size,1,none⟩ (.slice (f 0).a (f 0).l (f 0).c)):=
  ⟨(H5.var.setOther (a:=⟨w.heap.size,0,none⟩) (show h≠w.heap.size by omega) _).setOther (a:=⟨w.heap.size,1,none⟩) (show h≠w.heap.size by omega) _,ownsRow_setCell_other (ownsRow_setCell_other H5.own (a:=⟨w.heap.size,0,none⟩) (λe=>hgR (eU e).symm) _) (a:=⟨w.heap.size,1,none⟩) (λe=>hgR (eU e).symm) _,uy⟩
 have hb6:Below h w ((W5.setCell ⟨w.heap.size,0,none⟩ (.string ⟨(f 0).k.toArray⟩)).setCell ⟨w.heap.size,1,none⟩ (.slice (f 0).a (f 0).l (f 0).c)):=
  ((b3.trans (RF.below ae (λx hx=>by have e:g=x:=eU hx;omega))).setCell (p:=⟨w.heap.size,0,none⟩) (show h<=w.heap.size by omega) _).setCell (p:=⟨w.heap.size,1,none⟩) (show h<=w.heap.size by omega) _
 have hs6:B<=((W5.setCell ⟨w.heap.size,0,none⟩ (.string ⟨(f 0).k.toArray⟩)).setCell ⟨w.heap.size,1,none⟩ (.slice (f 0).a (f 0).l (f 0).c)).heap.size:=by have:=RF.size;simp;omega
 obtain⟨cR,r1,r2,r3⟩:=hr6
 have hcR:cR=#[.string ⟨(f 0).k.toArray⟩,.slice (f 0).a (f 0).l (f 0).c]:=by
  have q0:=r3 0 ae;have q1:=r3 1 ae;dsimp only at q0 q1;rw[ah ae,aj rfl]at q0;rw[aj rfl]at q1;apply kX;intro i
  match i with
  |0=>rw[q0];rfl
  |1=>rw[q1];rfl
  |i+2=>rw[jQ ae,jQ ai]
 subst hcR;refine gu (nz (p:=2) rfl _ _ w.heap.size 44 _ (0,0) _ ax r1 Tryz.underlying44 rfl ag) rfl ?_;refine⟨rfl,f',_,H6,hR5,hp5,hb6,hs6,λb hb hbh hbg=>?_⟩;have ash:b≠g:=λe=>hbg pM
 rw[bF _ _ _ _ (show b≠w.heap.size by omega),bF _ _ _ _ (show b≠w.heap.size by omega),RF.block b ae hbg,bF _ _ _ _ hbh,f2 b hb ash]
end Go.Proofs.Y
namespace Go.Proofs.Y
def afY:Nat:=14514072000185962306
def yT:Nat:=18446744073709551615
def Uw(v:Nat):Nat:=if v%2=1 then(v/2)^^^afY else v/2
def yS:Nat->Nat->Nat
 |0,v=>v
 |n+1,v=>yS n (Uw v)
def ake(v b:Nat):Nat:=yS 8 (v^^^b)
def Iy(v:Nat):List Nat->Nat
 |[]=>v
 |b::l=>Iy (ake v b) l
def crc(l:List Nat):Nat:=yT-Iy yT l
def FH:List Nat:=[0,9051005139383707209,18102010278767414418,9704381199536204507,7257036000092981153,1814259000023245288,11493583972846619443,16292555063049989498,14514072000185962306,13040162471224305931,3628518000046490576,5746791986423309721,12527462061959317731,15006518869663149738,6263731030979658865,3131865515489829432]
def akf(v:Nat):Nat:=(v/16)^^^FH.getD (v%16) 0
theorem akg(b d:Nat):(b^^^d)%2=if b%2=d%2 then 0 else 1:=by exact ax0
theorem akh(b d:Nat):(b^^^d)/2=(b/2)^^^(d/2):=by exact axi
theorem aaI(a b c d:Nat):(a^^^b)^^^(c^^^d)=(a^^^c)^^^(b^^^d):=by rw[bJ,bJ];congr 1;rw[<-bJ,iM b,bJ]
theorem aki(a b:Nat):Uw (a^^^b)=Uw a^^^Uw b:=by
 unfold Uw;generalize afY=C;rw[akg,akh];have h1:a%2=0\/a%2=1:=ae;have h2:b%2=0\/b%2=1:=ae;rcases h1 with h1|h1<;>rcases h2 with h2|h2<;>simp[h1,h2]
 .rw[bJ]
 .rw[bJ,bJ,iM C]
 .rw[aaI,iy,l7]
theorem N_:∀n a b,yS n (a^^^b)=yS n a^^^yS n b
 |0,_,_=>rfl
 |n+1,a,b=>by rw[yS,yS,yS,aki,N_ n]
theorem N9:∀n m v,yS (n+m) v=yS m (yS n v)
 |0,m,v=>by simp[yS]
 |n+1,m,v=>by rw[Nat.succ_add,yS,yS,N9 n]
theorem XF(v:Nat):Uw (2*v)=v:=by unfold Uw;rw[ah ae];omega
theorem akj(h:Nat):yS 4 (16*h)=h:=by have e:16*h=2*(2*(2*(2*h))):=ae;rw[e];simp only[yS,XF]
theorem ag4:∀l:Fin 16,FH.getD l.val 0=yS 4 l.val:=gW
theorem amC(v:Nat):v=(16*(v/16))^^^(v%16):=by
 have h:=avc (i:=4) (b:=v%16) ae (v/16);have e:v=2^4*(v/16)+v%16:=ae
 have h2:2^4*(v/16)|||v%16=(2^4*(v/16))^^^(v%16):=by
  apply nN;intro i;rw[Nat.testBit_or,Nat.testBit_xor,Nat.testBit_two_pow_mul,show v%16=v%2^4 from rfl,Nat.testBit_mod_two_pow];by_cases hi:i<4
  .simp[hi,Nat.not_le.2 hi]
  .simp[hi,Nat.not_lt.1 hi]
 rw[h2]at h
 calc v=2^4*(v/16)+v%16:=e
  _=_:=h
theorem afl(v:Nat):akf v=yS 4 v:=by
 have e:=amC v;have h:yS 4 v=yS 4 (16*(v/16))^^^yS 4 (v%16):=by rw[<-N_,<-e]
 rw[h,akj,akf,ag4 ⟨v%16,fJ _ ae⟩]
theorem amD:afY<2^64:=au
theorem aeQ{v:Nat}(h:v<2^64):Uw v<2^64:=by
 unfold Uw;split
 .exact iC ae amD
 .omega
theorem ZM:∀n {v:Nat},v<2^64->yS n v<2^64
 |0,_,h=>h
 |n+1,_,h=>by rw[yS];exact ZM n (aeQ h)
theorem amE{v b:Nat}(h:v<2^64)(hb:b<256):ake v b<2^64:=ZM 8 (iC h ae)
theorem aeO:∀(l:List Nat){v:Nat},v<2^64->(∀b∈l,b<256)->Iy v l<2^64
 |[],_,h,_=>h
 |b::l,_,h,hl=>aeO l (amE h (hl b (List.mem_cons_self ..))) (λc hc=>hl c (kH _ hc))
theorem amF{v:Nat}(h:v<2^64):akf v<2^64:=by rw[afl];exact ZM 4 h
theorem J7:yT<2^64:=au
theorem apc(l:List Nat):crc l<2^64:=iP (Nat.sub_le _ _) J7
theorem ag5:∀l:Fin 16,FH.getD l.val 0<2^64:=gW
end Go.Proofs.Y
namespace Go.Proofs.Y
open Go.RowKit
theorem afg{a b:Int}(h:a=b):Ending.returned (.int .u64 a)=.returned (.int .u64 b):=jf
theorem BA(a:Nat)(ha:a<2^64):(BitVec.ofInt 64 (a:Int)).toNat=a:=by rw[aun,oq];exact aZ ha
theorem Fb(a:Nat)(ha:a<2^64):IntKind.u64.wrap (a:Int)=(a:Int):=by simp[IntKind.wrap,IntKind.bits,IntKind.signed];omega
theorem Nh{a b:Nat}(ha:a<2^64)(hb:b<2^64):bits .xor .u64 (a:Int) (b:Int)=((a^^^b:Nat):Int):=by show IntKind.u64.wrap ((BitVec.ofInt 64 (a:Int)^^^BitVec.ofInt 64 (b:Int)).toNat:Int)=_;rw[aum,BA a ha,BA b hb,Fb _ (iC ha hb)]
theorem ag6{a:Nat}(ha:a<2^64):bits .and .u64 (a:Int) 15=((a%16:Nat):Int):=by show IntKind.u64.wrap ((BitVec.ofInt 64 (a:Int)&&&BitVec.ofInt 64 ((15:Nat):Int)).toNat:Int)=_;have h:=Nat.and_two_pow_sub_one_eq_mod a 4;have h15:a&&&15=a%16:=h;rw[BitVec.toNat_and,BA a ha,BA 15 ae,h15,Fb _ ae]
theorem akk{a:Nat}:((a:Nat):Int)/16=((a/16:Nat):Int):=ae
theorem aeP{s:Nat}(hs:s<2^64):yT^^^s=yT-s:=by
 have h:(BitVec.allOnes 64^^^BitVec.ofNat 64 s).toNat=(~~~BitVec.ofNat 64 s).toNat:=by rw[BitVec.allOnes_xor]
 rw[aum,BitVec.toNat_not,BitVec.toNat_allOnes,oq,aZ hs]at h;exact h
theorem amG{s:Nat}(hs:s<2^64):bits .xor .u64 IntKind.u64.max (s:Int)=((yT-s:Nat):Int):=by have e:IntKind.u64.max=((yT:Nat):Int):=au;rw[e,Nh J7 hs,aeP hs]
theorem J6(v b:Nat)(l:List Nat):Iy v (b::l)=Iy (ake v b) l:=rfl
theorem ag7{k s x m:Nat}{xs:List Nat}(hk:k<xs.length)(ex:xs.getD k 0=x)(H:Iy s (xs.drop k)=m):Iy (ake s x) (xs.drop (k+1))=m:=by
 rw[List.drop_eq_getElem_cons hk]at H;have e:xs[k]=x:=by rw[<-ex,aO,a_ hk];rfl
 rw[e]at H;exact(J6 s x _).symm.trans H
theorem four{y:Nat}(hy:y<2^64):∃m t z:Nat,m<16/\t=FH.getD m 0/\z<2^64/\z=yS 4 y/\bits .and .u64 (y:Int) 15=(m:Int)/\bits .xor .u64 ((y:Int)/16) (t:Int)=(z:Int):=by refine⟨y%16,_,akf y,fJ _ ae,rfl,amF hy,afl y,ag6 hy,?_⟩;rw[akk,Nh ae (ag5 ⟨y%16,fJ _ ae⟩),akf]
end Go.Proofs.Y
namespace Go.Proofs.Y
open Go.RowKit Go.Deep
structure ru(B:Nat)(S:Nat->Prop)(w w':World):Prop where
 os:w'.os=w.os
 tape:w'.tape=w.tape
 output:w'.output=w.output
 size:w.heap.size<=w'.heap.size
 block:∀k,k<B->¬S k->w'.heap[k]?=w.heap[k]?
theorem ru.refl(B:Nat)(S:Nat->Prop)(w:World):ru B S w w:=⟨rfl,rfl,rfl,ak _,λ_ _ _=>rfl⟩
theorem ru.trans{B:Nat}{S:Nat->Prop}{a b c:World}(h:ru B S a b)(k:ru B S b c):ru B S a c:=
 ⟨k.os.trans h.os,k.tape.trans h.tape,k.output.trans h.output,aJ h.size k.size,λi hi hs=>(k.block i hi hs).trans (h.block i hi hs)⟩
theorem ru.mono{B B':Nat}{S S':Nat->Prop}{a b:World}(h:ru B S a b)(hB:B'<=B)(hS:∀k,S k->S' k):ru B' S' a b:=
 ⟨h.os,h.tape,h.output,h.size,λk hk hs=>h.block k (aK hk hB) (λx=>hs (hS k x))⟩
theorem ru.qm{B:Nat}{S:Nat->Prop}{a b:World}(h:Below B a b):ru B S a b:=⟨h.os,h.tape,h.output,h.size,λk hk _=>h.block k hk⟩
theorem ru.setCell{B:Nat}{S:Nat->Prop}{a w:World}(h:ru B S a w){p:Addr}(hp:B<=p.block\/S p.block)(u:Value):ru B S a (w.setCell p u):=
 h.trans ⟨rfl,rfl,rfl,by simp[World.setCell],λk hk hs=>bF _ _ _ _ (by
  rintro rfl;rcases hp with x|x
  .omega
  .exact hs x)⟩
theorem ru.alloc{B:Nat}{S:Nat->Prop}{a w:World}(h:ru B S a w)(hB:B<=w.heap.size)(o:Obj):ru B S a (w.alloc o):=
 h.trans (.qm ((aA _ _).alloc hB o))
theorem ru.drew{B:Nat}{S:Nat->Prop}{a w:World}(h:ru B S a w):ru B S a w.drew:=⟨h.os,h.tape,h.output,h.size,h.block⟩
theorem ru.grown{B:Nat}{S:Nat->Prop}{a w w':World}{row:Option Nat}(h:ru B S a w)(hg:w.grownBy w' row)(hB:B<=w.heap.size)(hr:∀k,row=some k->B<=k):ru B S a w':=
 h.trans (.qm ((aA _ _).grown hg hB hr))
theorem ru.cell{B:Nat}{S:Nat->Prop}{w w':World}(h:ru B S w w'){p:Addr}(hp:p.block<B)(hs:¬S p.block):w'.cell? p=w.cell? p:=atV (w:=w) (h.block p.block hp hs)
theorem ru.below{B:Nat}{S:Nat->Prop}{w w':World}(h:ru B S w w')(hS:∀k,k<B->¬S k):Below B w w':=⟨h.os,h.tape,h.output,h.size,λk hk=>h.block k hk (hS k hk)⟩
def qf(w:World)(b:Nat)(cs:List Value)(t:TypeId):Prop:=w.heap[b]?=some (.cells cs.toArray t (0,0))
theorem qf.cell{w:World}{b:Nat}{cs:List Value}{t:TypeId}(h:qf w b cs t){i:Nat}{v:Value}(hi:cs[i]?=some v):w.cell? ⟨b,i,none⟩=some v:=by unfold qf at h;simp[World.cell?,h,hi]
theorem qf.frozen{w:World}{b:Nat}{cs:List Value}{t:TypeId}(h:qf w b cs t)(i:Nat):w.frozen? ⟨b,i,none⟩=false:=by unfold qf at h;simp[World.frozen?,h]
theorem qf.lt{w:World}{b:Nat}{cs:List Value}{t:TypeId}(h:qf w b cs t):b<w.heap.size:=by unfold qf at h;exact(bf.1 h).1
theorem qf.set{w:World}{b:Nat}{cs:List Value}{t:TypeId}(h:qf w b cs t)(i:Nat)(v:Value):qf (w.setCell ⟨b,i,none⟩ v) b (cs.set i v) t:=by unfold qf at*;simp[World.setCell,gK,h]
theorem qf.later{w w':World}{b:Nat}{cs:List Value}{t:TypeId}{B:Nat}{S:Nat->Prop}(h:qf w b cs t)(hb:ru B S w w')(h1:b<B)(h2:¬S b):qf w' b cs t:=by unfold qf at*;rw[hb.block b h1 h2];exact h
theorem qf.made(w:World)(cs:List Value)(t:TypeId):qf (w.alloc (.cells cs.toArray t)) w.heap.size cs t:=by show(w.heap.push _)[w.heap.size]?=_;simp
section
variable {w:World}{sb:Nat}{v:Value}{at_ e p:Nat}
end
def first(e x:Nat):Nat:=if e=0 then x else e
def tJ(l:List UInt8)(i:Nat):Nat:=(l.getD i 0).toNat
theorem Fv(l:List UInt8)(i:Nat):tJ l i<256:=lY _
def le(l:List UInt8)(a:Nat):Nat->Nat
 |0=>0
 |n+1=>tJ l a+256*le l (a+1) n
theorem Rn(l:List UInt8):∀(n a:Nat),le l a n<256^n
 |0,_=>by simp[le]
 |n+1,a=>by have h1:=Fv l a;have h2:=Rn l n (a+1);simp only[le,iO];omega
def CS(w:World)(bb bo:Nat)(l:List UInt8):Prop:=∀i,i<l.length->w.cell? ⟨bb,bo+i,none⟩=some (.int .u8 (tJ l i:Int))
theorem CS.later{w w':World}{bb bo:Nat}{l:List UInt8}{B:Nat}{S:Nat->Prop}(h:CS w bb bo l)(hb:ru B S w w')(h1:bb<B)(h2:¬S bb):CS w' bb bo l:=λi hi=>(hb.cell (p:=⟨bb,bo+i,none⟩) h1 h2).trans (h i hi)
theorem Fe{a b:Int}(h:a=b):Ending.returned (.int .i64 a)=.returned (.int .i64 b):=jf
def CU(l:List UInt8)(a:Nat):List UInt8->Option (Nat×Nat)
 |[]=>none
 |c::ws=>if l.length<=a then some (4,l.length)else if tJ l a=c.toNat then CU l (a+1) ws else some (5,a)
theorem ru.drewN{B:Nat}{S:Nat->Prop}{a w:World}(h:ru B S a w)(n:Nat):ru B S a (w.drewN n):=h.trans ⟨rfl,rfl,rfl,ak _,λ_ _ _=>rfl⟩
theorem agT(ws:List UInt8)(i:Nat)(hi:i<ws.length):∀w,(Instr.index 9 (.string ⟨ws.toArray⟩) (.int .i64 (i:Int))).run Tryz.prog w=.ok (.int .u8 ((ws.getD i 0).toNat:Int)) w:=by
 intro w;rw[run_index_string w 9 _ _ _ Tryz.underlying9];have h:0<=(i:Int)/\(i:Int)<((⟨ws.toArray⟩:ByteArray).size:Int):=by simp[ByteArray.size];omega
 rw[j_ h];have e:ws.getD i 0=ws[i]:=by rw[aO,a_ hi];rfl
 rw[e];rfl
theorem Dc:(Tryz.prog.info? 5).map (λi=>(i.zero,i.size,i.bytes))=some (some (.int .u8 0),1,1):=ag
def r_(l:List UInt8):List Value:=l.map λb=>Value.int .u8 (b.toNat:Int)
theorem sN(l:List UInt8):(r_ l).length=l.length:=dL
theorem Vo{l:List UInt8}{j:Nat}{u:Value}(h:(r_ l)[j]?=some u):j<l.length/\u=.int .u8 (tJ l j:Int):=by
 obtain⟨hj,e⟩:=dS.1 h;have Pq:j<l.length:=by simpa[r_]using hj
 refine⟨Pq,?_⟩;rw[<-e];simp only[r_,List.getElem_map,tJ,aO,a_ Pq,aB]
theorem EK(l:List UInt8):∀u∈r_ l,u.oneCell'=true:=by intro u hu;simp only[r_,fA]at hu;obtain⟨b,_,rfl⟩:=hu;rfl
theorem G6(b off j:Nat):(⟨b,off,none⟩:Addr).add j=⟨b,off+j,none⟩:=by unfold Addr.add;by_cases h:j=0<;>simp[h]
theorem CS.news{w:World}{bb bo:Nat}{l:List UInt8}(h:CS w bb bo l):∀j u,(r_ l)[j]?=some u->w.cell? ((⟨bb,bo,none⟩:Addr).add j)=some u:=by intro j u hj;obtain⟨h1,rfl⟩:=Vo hj;rw[G6];exact h j h1
def uP:Nat->Nat->List UInt8
 |0,_=>[]
 |n+1,v=>UInt8.ofNat (v%256)::uP n (v/256)
theorem qU:∀n v,(uP n v).length=n
 |0,_=>rfl
 |n+1,v=>by simp[uP,qU n]
theorem aaT:∀n v,uP (n+1) v=uP n v++[UInt8.ofNat (v/256^n%256)]
 |0,v=>by simp[uP]
 |n+1,v=>by show UInt8.ofNat (v%256)::uP (n+1) (v/256)=(UInt8.ofNat (v%256)::uP n (v/256))++_;rw[aaT n (v/256),aV,avg,iO,eX]
def sumOf(l:List UInt8):Nat:=crc (l.map UInt8.toNat)
theorem aaU(l:List UInt8)(i:Nat):(l.map UInt8.toNat).getD i 0=tJ l i:=by simp only[tJ,aO,bV];cases l[i]?<;>rfl
theorem aiF(l:List UInt8)(x:Nat)(hx:x<256)(m:List UInt8)(e:m=l++[UInt8.ofNat x]):r_ l++[.int .u8 (x:Int)]=r_ m:=by subst e;simp only[r_,iH,fE,jm];rw[dW,aZ (by simpa using hx)]
theorem al0(x:Int):∀u∈[Value.int .u8 x],u.oneCell'=true:=pR
theorem IJ(l:List UInt8):sumOf l<2^64:=apc _
def part(l:List UInt8)(a n:Nat):List UInt8:=(l.drop a).take n
theorem qF{l:List UInt8}{a n:Nat}(h:a+n<=l.length):(part l a n).length=n:=by simp[part];omega
theorem uV{l:List UInt8}{a n i:Nat}(hi:i<n):tJ (part l a n) i=tJ l (a+i):=by simp[tJ,part,hi]
theorem CS.part{w:World}{bb bo:Nat}{l:List UInt8}(h:CS w bb bo l){a n:Nat}(hn:a+n<=l.length):CS w bb (bo+a) (part l a n):=by intro i hi;rw[qF hn]at hi;rw[uV hi,dw];exact h (a+i) ae
def zW(l:List UInt8)(a n:Nat):Option (Nat×Nat):=
 if l.length<a+n+8 then some (4,l.length)else if part l (a+n) 8=uP 8 (sumOf (part l a n))then none else some (6,a+n)
theorem mixed:Tryz.prog.follows .mixedOrders=true:=ag
theorem Ej{P:Program}{id:Nat}{Q:Exit->Act->World->Prop}{a:Act}{w:World}{l:List Oper}(n:Nat)(hm:P.follows .mixedOrders=true)(hB:Region.lexTailB .any l.toArray n=true)
  (h:wpStill P l.toArray w.drew (λa'=>wpList P l.toArray Q (l.drop n) a' w.drew) (l.take n) a):(Code.region id l.toArray true).wp P Q a w:=wp_region_still_tail n hm hB h
theorem zS(bb bo len cap:Nat)(L H:Int)(a h:Nat)(hL:L=a)(hH:H=h)(hah:a<=h)(hc:h<=cap)(ha:a<cap):∀w,(Instr.slice 34 (.slice (some ⟨bb,bo,none⟩) len cap) (some (.int .i64 L)) (some (.int .i64 H)) none).run Tryz.prog w=.ok (.slice (some ⟨bb,bo+a,none⟩) (h-a) (cap-a)) w:=by
 intro w;subst hL hH;have hu:Tryz.prog.underlying 34=some (.slice (Tryz.prog.elem 34)):=Tryz.underlying34;rw[run_slice_lh w 34 _ _ _ hu .i64 .i64 a h ae ae ae]
 have hsz:(sizeOf (Tryz.prog.elem 34)).run Tryz.prog w=.ok 1 w:=by simp[sizeOf,go_sem];rfl
 exact axJ
def qR(w:World)(v:Value)(xs:List Value):Prop:=
 ∃ba cap,v=.slice ba xs.length cap/\xs.length<=cap/\∀j u,xs[j]?=some u->∃b off,ba=some ⟨b,off,none⟩/\w.cell? ⟨b,off+j,none⟩=some u
theorem rM{w:World}{p:Addr}{u:Value}(h:w.cell? p=some u):p.block<w.heap.size:=by
 rcases aQ p.block w.heap.size with h1|h1
 .exact h1
 .unfold World.cell? at h;have:w.heap[p.block]?=none:=by simp[h1]
  rw[this]at h;split at h<;>simp_all
theorem qR.below{w w':World}{v:Value}{xs:List Value}(h:qR w v xs)(hb:Below w.heap.size w w'):qR w' v xs:=by obtain⟨ba,cap,rfl,hle,hc⟩:=h;refine⟨ba,cap,rfl,hle,λj u hj=>?_⟩;obtain⟨b,off,e,hh⟩:=hc j u hj;exact⟨b,off,e,(hb.cell (p:=⟨b,off+j,none⟩) (rM hh)).trans hh⟩
def wO(l:List (List UInt8)):List Value:=l.map λs=>Value.string ⟨s.toArray⟩
def FC(l:List Int):List Value:=l.map λz=>Value.int .i64 z
theorem v_(l:List (List UInt8)):(wO l).length=l.length:=by simp[wO]
theorem ER(l:List Int):(FC l).length=l.length:=by simp[FC]
theorem Gf{l:List (List UInt8)}{j:Nat}(h:j<l.length):(wO l)[j]?=some (.string ⟨(l.getD j []).toArray⟩):=by simp[wO,a_ h]
theorem Y6{l:List Int}{j:Nat}(h:j<l.length):(FC l)[j]?=some (.int .i64 (l.getD j 0)):=by simp[FC,a_ h]
theorem wR{l:List UInt8}{j:Nat}(h:j<l.length):(r_ l)[j]?=some (.int .u8 (tJ l j:Int)):=by obtain⟨u,hu⟩:∃u,(r_ l)[j]?=some u:=⟨_,a_ (by simpa[r_]using h)⟩;obtain⟨_,rfl⟩:=Vo hu;exact hu
def UF(a b:List UInt8):Bool:=Op.bytesLess a b||a==b
structure Sh where
 K:Int
 N:Int
 I:Int
 C:Int
 ns:List (List UInt8)
 zs:List Int
 qy:List UInt8
def vV(ns:List (List UInt8)):Prop:=∀i,i<ns.length->(1<=(ns.getD i []).length/\(ns.getD i []).length<=255)/\(0<i->UF (ns.getD i []) (ns.getD (i-1) [])=false)
def Og(zs:List Int):Prop:=∀i,i<zs.length->0<=zs.getD i 0
def IL(ns:List (List UInt8)):Nat:=4+(ns.map λn=>6+n.length).sum
def EG(zs:List Int):Nat:=(zs.map Int.toNat).sum
def tX(k t:Nat):Nat:=(t+k-1)/k
structure Sh.O1(s:Sh):Prop where
 k1:1<=s.K
 kn:s.K<=s.N
 n1:s.N<=128
 i0:0<=s.I
 iN:s.I<s.N
 c1:1<=s.C
 c2:s.C<=65536
structure Sh.Listed(s:Sh):Prop where
 len:s.ns.length=s.zs.length
 names:vV s.ns
 sizes:Og s.zs
structure Sh.Few(s:Sh):Prop where
 aho:s.ns.length<=1000
 bytes:EG s.zs<=65536
 NJ:IL s.ns<=300000
def Sh.RU(s:Sh):Prop:=s.qy.length=tX s.K.toNat (EG s.zs)
def Sh.Bad(s:Sh):Prop:=s.I<s.K/\∃m,m<s.qy.length/\EG s.zs<=s.I.toNat*tX s.K.toNat (EG s.zs)+m/\tJ s.qy m≠0
open Classical in
noncomputable def Sh.err(s:Sh):Nat:=
 if¬s.O1 then 1 else if¬s.Listed then 2 else if¬s.Few then 3 else if¬s.RU then 15 else if s.Bad then 8 else 0
def wS(ns:List (List UInt8))(zs:List Int)(i:Nat):List UInt8:=uP 4 ns.length++(List.range i).flatMap λj=>uP 2 (ns.getD j []).length++(ns.getD j []++uP 4 (zs.getD j 0).toNat)
theorem UD(ns:List (List UInt8))(zs:List Int)(i:Nat):wS ns zs (i+1)=wS ns zs i++uP 2 (ns.getD i []).length++ns.getD i []++uP 4 (zs.getD i 0).toNat:=by simp[wS,dC]
def rf(l:List UInt8):List UInt8:=l++uP 8 (sumOf l)
def x8(s:Sh):List UInt8:=wS s.ns s.zs s.ns.length
def b8(x:Int):UInt8:=UInt8.ofNat (x.toNat%256)
def ug(s:Sh)(m:Nat):List UInt8:=[67,65,73,82,78,49]++([b8 s.K,b8 s.N,b8 s.I,0]++(uP 4 s.C.toNat++(uP 4 m++(uP 4 s.qy.length++[0,0]))))
def xK(c:Nat)(qy:List UInt8)(k:Nat):List UInt8:=rf (part qy (k*c) (min c (qy.length-k*c)))
def rO(c:Nat)(qy:List UInt8)(i:Nat):List UInt8:=(List.range i).flatMap (xK c qy)
theorem xI(c:Nat)(qy:List UInt8)(i:Nat):rO c qy (i+1)=rO c qy i++xK c qy i:=by simp[rO,dC]
def GI(c n:Nat):Nat:=(n+c-1)/c
def RS(s:Sh):List UInt8:=rf (ug s (x8 s).length)++rf (x8 s)++rO s.C.toNat s.qy (GI s.C.toNat s.qy.length)++[68,79,78,69]
theorem PV{c n k:Nat}(hc:1<=c):k<GI c n↔k*c<n:=by unfold GI;rw[Nat.lt_div_iff_mul_lt ae];omega
theorem sO(l:List UInt8):(rf l).length=l.length+8:=by simp[rf,qU]
theorem GZ(ns:List (List UInt8))(zs:List Int):∀i,(wS ns zs i).length=4+((List.range i).map λj=>6+(ns.getD j []).length).sum
 |0=>by simp[wS,qU]
 |i+1=>by rw[UD];simp only[aS,qU,GZ ns zs i,dC,iH,fE,jm,iG,jk,mg];omega
theorem Ey{α β:Type}(l:List α)(d:α)(f:α->β):(List.range l.length).map (λj=>f (l.getD j d))=l.map f:=by
 apply auf
 .simp
 .intro i h1 h2;have:i<l.length:=gQ;simp[a_ this]
theorem BP(s:Sh):(x8 s).length=IL s.ns:=by unfold x8 IL;rw[GZ,Ey s.ns [] (λn=>6+n.length)]
def Dh(ns:List (List UInt8))(i:Nat):Nat:=4+((List.range i).map λj=>6+(ns.getD j []).length).sum
theorem Rw(ns:List (List UInt8))(i:Nat):Dh ns (i+1)=Dh ns i+6+(ns.getD i []).length:=by simp only[Dh,dC,iH,fE,jm,iG,jk,mg];omega
theorem ML(ns:List (List UInt8)):Dh ns ns.length=IL ns:=by unfold Dh IL;rw[Ey ns [] (λn=>6+n.length)]
def zA(zs:List Int)(i:Nat):Nat:=((List.range i).map λj=>(zs.getD j 0).toNat).sum
theorem G5(zs:List Int)(i:Nat):zA zs (i+1)=zA zs i+(zs.getD i 0).toNat:=by simp[zA,dC]
theorem Qx(zs:List Int):zA zs zs.length=EG zs:=by unfold zA EG;rw[Ey zs 0 Int.toNat]
theorem Vu(zs:List Int)(i:Nat):∀d,zA zs i<=zA zs (i+d)
 |0=>ak _
 |d+1=>by have:=Vu zs i d;rw[<-dw,G5];omega
theorem UC(zs:List Int){i:Nat}(h:i<=zs.length):zA zs i<=EG zs:=by rw[<-Qx];have:=Vu zs i (zs.length-i);rwa[show i+(zs.length-i)=zs.length by omega]at this
theorem ru.ab1{w w':World}{row:Option Nat}(h:w.grownBy w' row):ru w.heap.size (λk=>row=some k) w w':=
 ⟨h.os,h.tape,h.output,h.size,λk hk hs=>h.block k hk (λe=>hs e.symm)⟩
theorem Aq{w:World}{base n:Nat}{v:Value}{l:List UInt8}(h:w.ownsRow base 5 1 v n (r_ l))(hn:0<n):∃g c,v=.slice (some ⟨g,0,none⟩) l.length c/\n=l.length/\base<=g/\g<w.heap.size/\n<=c/\CS w g 0 l:=by
 have hl:l.length=n:=awk;rcases h.2 with⟨_,h0⟩|⟨g,c,cur,rfl,hg,hh,hc,_⟩
 .omega
 refine⟨g,c,by rw[hl],hl.symm,hg,(bf.1 hh).1,hc,λi hi=>?_⟩;have:=h.cellAt i ae;rw[aT,this];exact wR hi
theorem Y7(l:List UInt8):Lib.strCells ⟨l.toArray⟩=r_ l:=by simp[Lib.strCells,r_]
end Go.Proofs.Y
namespace Go.Proofs.Y
open Go.RowKit
theorem al1(b off len cap:Nat)(xs:List Nat)(hl:xs.length=len)(hx:∀i,i<len->xs.getD i 0<256)(hm:len<=9223372036854775807)(w:World)(hc:∀i,i<len->w.cell? ⟨b,off+i,none⟩=some (.int .u8 ((xs.getD i 0:Nat):Int)))
  (ht:∀i,i<16->w.cell? ⟨2,i,none⟩=some (.int .u64 ((FH.getD i 0:Nat):Int))):
  Calls Tryz.prog 76 #[.slice (some ⟨b,off,none⟩) len cap] w λe w'=>e=.returned (.int .u64 (crc xs:Nat))/\w'=w:=by
 go_enter Tryz.func76,Tryz.ntmps76;go_wp2
 go_loop [3,5,8] (λvs vb vi=>∃k s:Nat,k<=len/\s<2^64/\vs=.int .u64 (s:Int)/\vi=.int .i64 (k:Int)/\Hid (Iy s (xs.drop k)=Iy yT xs)) (λ_ _ i=>len-(intOf i).toNat)
 case atStart=>exact⟨0,yT,ae,J7,rfl,rfl,rfl⟩
 case round=>
  obtain⟨k,s,hk,hs,rfl,rfl,H⟩:=hrel;by_cases qE:k<len
  .have hcell:=hc k qE;have hb:=hx k qE;obtain⟨x,ex⟩:∃x,xs.getD k 0=x:=⟨_,rfl⟩;rw[ex]at hcell hb;have ey:=Nh hs (Nat.lt_trans hb au);obtain⟨y,hy⟩:∃y,s^^^x=y:=⟨_,rfl⟩;have ly:y<2^64:=hy▸iC hs (Nat.lt_trans hb au);rw[hy]at ey;obtain⟨m1,t1,z1,hm1,TD,lz1,w_,e1,e2⟩:=four ly;obtain⟨m2,t2,z2,hm2,ht2,lz2,wH,e3,e4⟩:=four lz1;have hc1:=ht m1 hm1;have VD:=ht m2 hm2;rw[<-TD]at hc1;rw[<-ht2]at VD
   have G:Hid (Iy z2 (xs.drop (k+1))=Iy yT xs):=by
    have hz:z2=ake s x:=by rw[wH,w_,<-N9,<-hy];rfl
    rw[hz];exact ag7 ae ex H.out
   clear ex hc hx ht TD ht2 w_ wH hy H;go_wp2
   go_round
   case rel=>exact⟨k+1,z2,ae,lz2,rfl,aW,G⟩
   case measure=>simp[intOf];omega
  .have e:k=xs.length:=ae
   have G:Hid (s=Iy yT xs):=by have:=H.out;rw[e,List.drop_length]at this;exact this
   clear H hc hx ht;go_wp2;go_ret;exact⟨afg (by rw[amG hs,crc,<-G.out]),rfl⟩
