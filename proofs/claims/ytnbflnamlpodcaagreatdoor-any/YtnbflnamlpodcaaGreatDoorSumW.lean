import Derived.Test.YtnbflnamlpodcaaGreatDoorHpD
import Derived.StillTailTactics
set_option maxHeartbeats 4000000
set_option maxRecDepth 100000
namespace Go.Proofs.Y
open Go.RowKit Go.Deep Go.Hp
theorem len_any(B h n:Nat)(f:Nat->qQ)(v:Value)(w:World)(H:HA B h n f v w):
  Calls Tryz.prog 24 #[.pointer (some ⟨h,0,none⟩)] w λr w'=>r=.returned (.int .i64 ((n:Nat):Int))/\w'=w:=by
 have a0:=H.var.cell (i:=0) ae
 obtain⟨bo,cap,rfl⟩:∃bo cap,v=.slice bo n cap:=by exact aqs
 clear H;go_enter Tryz.func24,Tryz.ntmps24;exact aqd
theorem ac_{w:World}{B n g cap:Nat}{f:Nat->qQ}(h:w.ownsRow B 97 3 (.slice (some ⟨g,0,none⟩) (n+1) cap) (n+1) (F9 (n+1) f)):w.ownsRow B 97 3 (.slice (some ⟨g,0,none⟩) n cap) n (F9 n f):=by
 refine⟨uM n f,.inr ?_⟩;rcases h.2 with⟨h1,_⟩|⟨g',cap',cur,h1,h2,h3,h4,h5,h6,h7⟩
 .cases h1
 .cases h1;refine⟨g,cap,cur,rfl,h2,h3,ae,h5,h6,?_⟩;have:=aP (List.take (n*3)) h7;rw[List.take_take,nC ae,DW,anN mO]at this;rw[this,iJ mO]
def JO(n:Nat)(f:Nat->qQ)(x:Nat):qQ:=if x=0 then f n else f x
theorem agd{n:Nat}{f:Nat->qQ}(h:Hp f (n+1)):Xr (JO n f) n 0:=
 ⟨λc h0 hc hne=>by unfold JO;rw[ah hne,ah ae];exact h c h0 ae,λc _ _ _ h0=>absurd h0 ae⟩
def ah_(B h n:Nat)(f:Nat->qQ)(v:Value)(w:World)(r:Ending)(w':World):Prop:=r=.returned (.agg #[qV (f 0).k,(f 0).d])/\∃f' v',HA B h n f' v' w'/\qK n (JO n f) f'/\Hp f' n/\Below h w w'/\B<=w'.heap.size/\∀b,b<w.heap.size->b≠h->some b≠v.ownBlock->w'.heap[b]?=w.heap[b]?
theorem pop_any(B h n:Nat)(f:Nat->qQ)(v:Value)(w:World)(H:HA B h (n+1) f v w)(hB:B<=w.heap.size)(hn:n<=1048576)(hp:Hp f (n+1)):
  Calls Tryz.prog 25 #[.pointer (some ⟨h,0,none⟩)] w λr w'=>ah_ B h n f v w r w':=by
 obtain⟨g,cap,rfl,hg,hnc,hcm⟩:=H.form ae;have hcm':cap<=9223372036854775807:=hcm;clear hcm;have hlow:=H.low
 have nR:(w.alloc (.cells #[.string ⟨#[]⟩,.slice none 0 0] 44)).rowIs w.heap.size 44 2 (λj=>if j=0 then .string ⟨#[]⟩else .slice none 0 0):=
  World.rowIs_alloc w #[.string ⟨#[]⟩,.slice none 0 0] 44 _ (λi hi=>by have:i=0\/i=1:=iF;rcases this with rfl|rfl<;>rfl)
 have H0:HA B h (n+1) f (.slice (some ⟨g,0,none⟩) (n+1) cap) (w.alloc (.cells #[.string ⟨#[]⟩,.slice none 0 0] 44)):=⟨H.var.alloc _,H.own.alloc _,H.low⟩;have b0:Below h w (w.alloc (.cells #[.string ⟨#[]⟩,.slice none 0 0] 44)):=(aA _ _).alloc ae _;have s0:(w.alloc (.cells #[.string ⟨#[]⟩,.slice none 0 0] 44)).heap.size=w.heap.size+1:=ai;clear H;generalize hw0:w.alloc (.cells #[.string ⟨#[]⟩,.slice none 0 0] 44)=w0 at*
 have n1:(w0.alloc (.cells #[qV (f 0).k,(f 0).d] 44)).rowIs (w.heap.size+1) 44 2 (λj=>if j=0 then qV (f 0).k else(f 0).d):=by
  rw[<-s0]
  exact World.rowIs_alloc w0 #[qV (f 0).k,(f 0).d] 44 _ (λi hi=>by have:i=0\/i=1:=iF;rcases this with rfl|rfl<;>rfl)
 have nR1:=nR.alloc (.cells #[qV (f 0).k,(f 0).d] 44);have H1:HA B h (n+1) f (.slice (some ⟨g,0,none⟩) (n+1) cap) (w0.alloc (.cells #[qV (f 0).k,(f 0).d] 44)):=⟨H0.var.alloc _,H0.own.alloc _,H0.low⟩;have b1:=b0.alloc ae (.cells #[qV (f 0).k,(f 0).d] 44);have s1:(w0.alloc (.cells #[qV (f 0).k,(f 0).d] 44)).heap.size=w.heap.size+2:=az;have a0:=H0.var.cell (i:=0) ae;obtain⟨c0,c1,c2⟩:=H0.at 0 ae;have a1:=H1.var.cell (i:=0) ae;obtain⟨d0,d1,d2⟩:=H1.at n ae;obtain⟨e0,_,_⟩:=H1.at 0 ae;simp only[fF,aS]at c0 c1 c2 e0;have o0:=H1.own;have ex:∀{w:World}{xs:List Value},w.ownsRow B 97 3 (.slice (some ⟨g,0,none⟩) (n+1) cap) (n+1) xs->∀p,p<(n+1)*3->∃y,w.cell? ⟨g,p,none⟩=some y:=λ{w xs} o p hp=>⟨xs[p]' aos,aor⟩;have z0:=o0.frozenAt 0;have o1:=(o0.stored 0 (qV (f n).k)).1;obtain⟨y1,e1⟩:=ex o1 1 ae;have z1:=o1.frozenAt 1;have o2:=(o1.stored 1 (qV (f n).k)).1;obtain⟨y2,e2⟩:=ex o2 2 ae;have z2:=o2.frozenAt 2;have o3:=(o2.stored 2 (f n).d).1;have hes:=Qj (n+1) f 0 ae (f n);simp only[fF,aS]at hes;rw[hes]at o3;have hgh:h≠g:=ae
 have hgR:w.heap.size≠g:=by
  have:=(H0.own.lt g rfl).2;intro e;subst e;rcases nR with⟨cR,q1,q2,_⟩;rcases H0.own.2 with⟨q,_⟩|⟨g',cap',cur,q,_,q3,_⟩
  .cases q
  .cases q;rw[q1]at q3;cases q3
 have hgF:w.heap.size+1≠g:=by have:=(H0.own.lt g rfl).2;omega
 have H2:HA B h (n+1) (JO n f) (.slice (some ⟨g,0,none⟩) (n+1) cap) ((((w0.alloc (.cells #[qV (f 0).k,(f 0).d] 44)).setCell ⟨g,0,none⟩ (qV (f n).k)).setCell ⟨g,1,none⟩ (qV (f n).k)).setCell ⟨g,2,none⟩ (f n).d):=
  ⟨((H1.var.setOther (a:=⟨g,0,none⟩) hgh _).setOther (a:=⟨g,1,none⟩) hgh _).setOther (a:=⟨g,2,none⟩) hgh _,o3,H1.low⟩
 have n2:=((n1.setOther (a:=⟨g,0,none⟩) hgF (qV (f n).k)).setOther (a:=⟨g,1,none⟩) hgF (qV (f n).k)).setOther (a:=⟨g,2,none⟩) hgF (f n).d;have nR2:=((nR1.setOther (a:=⟨g,0,none⟩) hgR (qV (f n).k)).setOther (a:=⟨g,1,none⟩) hgR (qV (f n).k)).setOther (a:=⟨g,2,none⟩) hgR (f n).d;have b2:=((b1.setCell (p:=⟨g,0,none⟩) (show h<=g by omega) (qV (f n).k)).setCell (p:=⟨g,1,none⟩) (show h<=g by omega) (qV (f n).k)).setCell (p:=⟨g,2,none⟩) (show h<=g by omega) (f n).d
 have f2:∀b,b<w.heap.size->b≠g->((((w0.alloc (.cells #[qV (f 0).k,(f 0).d] 44)).setCell ⟨g,0,none⟩ (qV (f n).k)).setCell ⟨g,1,none⟩ (qV (f n).k)).setCell ⟨g,2,none⟩ (f n).d).heap[b]?=w.heap[b]?:=λb hb hne=>by rw[bG _ _ _ _ hne,bG _ _ _ _ hne,bG _ _ _ _ hne,bK _ _ _ ae,<-hw0,bK _ _ _ hb]
 have s2:((((w0.alloc (.cells #[qV (f 0).k,(f 0).d] 44)).setCell ⟨g,0,none⟩ (qV (f n).k)).setCell ⟨g,1,none⟩ (qV (f n).k)).setCell ⟨g,2,none⟩ (f n).d).heap.size=w.heap.size+2:=az;clear o0 o1 o2 o3 hes ex H1 n1 nR1 b1 s1 nR b0;have ed:((n:Int)+1)-1=(n:Int):=ae;have hnl:(n:Int)<((n+1:Nat):Int):=ae;have hcap:(n:Int)<=(cap:Int):=ae;go_enter Tryz.func25,Tryz.ntmps25;simp only[qV,qQ.d]at*;go_wp2;subst hw0;go_region;clear a0 c0 c1 c2 a1 d0 d1 d2 e0 e1 e2 z0 z1 z2 H0 s0 y1 y2;generalize((((w.alloc (.cells #[.string ⟨#[]⟩,.slice none 0 0] 44)).alloc (.cells #[.string ⟨(f 0).k.toArray⟩,.slice (f 0).a (f 0).l (f 0).c] 44)).setCell ⟨g,0,none⟩ (.string ⟨(f n).k.toArray⟩)).setCell ⟨g,1,none⟩ (.string ⟨(f n).k.toArray⟩)).setCell ⟨g,2,none⟩ (.slice (f n).a (f n).l (f n).c)=W2 at*;replace H2:HA B h (n+1) (JO n f) (.slice (some ⟨g,0,none⟩) (n+1) cap) W2.drew:=⟨H2.var,H2.own,H2.low⟩;replace n2:W2.drew.rowIs (w.heap.size+1) 44 2 (λj=>if j=0 then .string ⟨(f 0).k.toArray⟩else .slice (f 0).a (f 0).l (f 0).c):=n2;replace nR2:W2.drew.rowIs w.heap.size 44 2 (λj=>if j=0 then .string ⟨#[]⟩else .slice none 0 0):=nR2;replace b2:Below h w W2.drew:=⟨b2.os,b2.tape,b2.output,b2.size,b2.block⟩;replace s2:W2.drew.heap.size=w.heap.size+2:=s2;replace f2:∀b,b<w.heap.size->b≠g->W2.drew.heap[b]?=w.heap[b]?:=f2;generalize W2.drew=W3 at*;have g0:=H2.var.cell (i:=0) ae;have g1:=H2.var.frozen 0
 have H3:HA B h n (JO n f) (.slice (some ⟨g,0,none⟩) n cap) (W3.setCell ⟨h,0,none⟩ (.slice (some ⟨g,0,none⟩) n cap)):=
  ⟨(H2.var.set 0 (.slice (some ⟨g,0,none⟩) n cap)).congr λi hi=>oZ,dE (ac_ H2.own) (a:=⟨h,0,none⟩) hlow _,hlow⟩
 have n3:=n2.setOther (a:=⟨h,0,none⟩) (show w.heap.size+1≠h by omega) (.slice (some ⟨g,0,none⟩) n cap);have nR3:=nR2.setOther (a:=⟨h,0,none⟩) (show w.heap.size≠h by omega) (.slice (some ⟨g,0,none⟩) n cap);have b3:=b2.setCell (p:=⟨h,0,none⟩) (ak _) (.slice (some ⟨g,0,none⟩) n cap);have s3:(W3.setCell ⟨h,0,none⟩ (.slice (some ⟨g,0,none⟩) n cap)).heap.size=w.heap.size+2:=by simp;exact s2
 have k5:=Vg B h n 0 (JO n f) _ _ H3 ae (.inr rfl) (agd hp);rw[show((0:Nat):Int)=0 from rfl]at k5;clear H2 n2 nR2 b2 s2
 go_wp2_with(first|(go_at_call 42;(with_reducible refine k5.mono ?_);rintro r W5 ⟨rfl,f',H5,hR5,hp5,hb5⟩;have n5:=n3.of_block (hb5.block (w.heap.size+1) ae (λe=>hgF (d_ e)));have nR5:=nR3.of_block (hb5.block w.heap.size ae (λe=>hgR (d_ e)));have q0:=n5.cell (i:=0) ae;have q1:=n5.cell (i:=1) ae;have q2:=nR5.cell (i:=0) ae;have q3:=nR5.frozen 0;have q4:=(nR5.set 0 (.string ⟨(f 0).k.toArray⟩)).cell (i:=1) ae;have q5:=(nR5.set 0 (.string ⟨(f 0).k.toArray⟩)).frozen 1;simp only[aF,jF,aU]at q0 q1 q2 q4))
 have hr6:=(nR5.set 0 (.string ⟨(f 0).k.toArray⟩)).set 1 (.slice (f 0).a (f 0).l (f 0).c)
 have H6:HA B h n f' (.slice (some ⟨g,0,none⟩) n cap) ((W5.setCell ⟨w.heap.size,0,none⟩ (.string ⟨(f 0).k.toArray⟩)).setCell ⟨w.heap.size,1,none⟩ (.slice (f 0).a (f 0).l (f 0).c)):=
  ⟨(H5.var.setOther (a:=⟨w.heap.size,0,none⟩) (show h≠w.heap.size by omega) _).setOther (a:=⟨w.heap.size,1,none⟩) (show h≠w.heap.size by omega) _,ownsRow_setCell_other (ownsRow_setCell_other H5.own (a:=⟨w.heap.size,0,none⟩) (λe=>hgR (d_ e).symm) _) (a:=⟨w.heap.size,1,none⟩) (λe=>hgR (d_ e).symm) _,hlow⟩
 have hb6:Below h w ((W5.setCell ⟨w.heap.size,0,none⟩ (.string ⟨(f 0).k.toArray⟩)).setCell ⟨w.heap.size,1,none⟩ (.slice (f 0).a (f 0).l (f 0).c)):=
  ((b3.trans (hb5.below ae (λx hx=>by have e:g=x:=d_ hx;omega))).setCell (p:=⟨w.heap.size,0,none⟩) (show h<=w.heap.size by omega) _).setCell (p:=⟨w.heap.size,1,none⟩) (show h<=w.heap.size by omega) _
 have hs6:B<=((W5.setCell ⟨w.heap.size,0,none⟩ (.string ⟨(f 0).k.toArray⟩)).setCell ⟨w.heap.size,1,none⟩ (.slice (f 0).a (f 0).l (f 0).c)).heap.size:=by have:=hb5.size;simp;omega
 obtain⟨cR,r1,r2,r3⟩:=hr6
 have hcR:cR=#[.string ⟨(f 0).k.toArray⟩,.slice (f 0).a (f 0).l (f 0).c]:=by
  have q0:=r3 0 ae;have q1:=r3 1 ae;dsimp only at q0 q1;rw[ah ae,aj rfl]at q0;rw[aj rfl]at q1;apply kR;intro i
  match i with
  |0=>rw[q0];rfl
  |1=>rw[q1];rfl
  |i+2=>rw[kK ae,kK ai]
 subst hcR;refine fU (mY (p:=2) rfl _ _ w.heap.size 44 _ (0,0) _ ax r1 Tryz.underlying44 rfl ag) rfl ?_;refine⟨rfl,f',_,H6,hR5,hp5,hb6,hs6,λb hb hbh hbg=>?_⟩;have amM:b≠g:=λe=>hbg pq
 rw[bG _ _ _ _ (show b≠w.heap.size by omega),bG _ _ _ _ (show b≠w.heap.size by omega),hb5.block b ae hbg,bG _ _ _ _ hbh,f2 b hb amM]
end Go.Proofs.Y
namespace Go.Proofs.Y
def ako:Nat:=14514072000185962306
def BU:Nat:=18446744073709551615
def VM(v:Nat):Nat:=if v%2=1 then(v/2)^^^ako else v/2
def Bi:Nat->Nat->Nat
 |0,v=>v
 |n+1,v=>Bi n (VM v)
def aia(v b:Nat):Nat:=Bi 8 (v^^^b)
def QR(v:Nat):List Nat->Nat
 |[]=>v
 |b::l=>QR (aia v b) l
def crc(l:List Nat):Nat:=BU-QR BU l
def Dj:List Nat:=[0,9051005139383707209,18102010278767414418,9704381199536204507,7257036000092981153,1814259000023245288,11493583972846619443,16292555063049989498,14514072000185962306,13040162471224305931,3628518000046490576,5746791986423309721,12527462061959317731,15006518869663149738,6263731030979658865,3131865515489829432]
def agl(v:Nat):Nat:=(v/16)^^^Dj.getD (v%16) 0
theorem agm(b d:Nat):(b^^^d)%2=if b%2=d%2 then 0 else 1:=by exact arW
theorem agn(b d:Nat):(b^^^d)/2=(b/2)^^^(d/2):=by exact aq7
theorem agp(a b c d:Nat):(a^^^b)^^^(c^^^d)=(a^^^c)^^^(b^^^d):=by rw[dG,dG];congr 1;rw[<-dG,jD b,dG]
theorem agq(a b:Nat):VM (a^^^b)=VM a^^^VM b:=by
 unfold VM;generalize ako=C;rw[agm,agn];have h1:a%2=0\/a%2=1:=ae;have h2:b%2=0\/b%2=1:=ae;rcases h1 with h1|h1<;>rcases h2 with h2|h2<;>simp[h1,h2]
 .rw[dG]
 .rw[dG,dG,jD C]
 .rw[agp,lT,ni]
theorem Yq:∀n a b,Bi n (a^^^b)=Bi n a^^^Bi n b
 |0,_,_=>rfl
 |n+1,a,b=>by rw[Bi,Bi,Bi,agq,Yq n]
theorem Yr:∀n m v,Bi (n+m) v=Bi m (Bi n v)
 |0,m,v=>by simp[Bi]
 |n+1,m,v=>by rw[Nat.succ_add,Bi,Bi,Yr n]
theorem ada(v:Nat):VM (2*v)=v:=by unfold VM;rw[ah ae];omega
theorem agr(h:Nat):Bi 4 (16*h)=h:=by have e:16*h=2*(2*(2*(2*h))):=ae;rw[e];simp only[Bi,ada]
theorem adb:∀l:Fin 16,Dj.getD l.val 0=Bi 4 l.val:=gJ
theorem aib(v:Nat):v=(16*(v/16))^^^(v%16):=by
 have h:=aoT (i:=4) (b:=v%16) ae (v/16);have e:v=2^4*(v/16)+v%16:=ae
 have h2:2^4*(v/16)|||v%16=(2^4*(v/16))^^^(v%16):=by
  apply aoW;intro i;rw[Nat.testBit_or,Nat.testBit_xor,Nat.testBit_two_pow_mul,show v%16=v%2^4 from rfl,Nat.testBit_mod_two_pow];by_cases hi:i<4
  .simp[hi,Nat.not_le.2 hi]
  .simp[hi,Nat.not_lt.1 hi]
 rw[h2]at h
 calc v=2^4*(v/16)+v%16:=e
  _=_:=h
theorem abt(v:Nat):agl v=Bi 4 v:=by
 have e:=aib v;have h:Bi 4 v=Bi 4 (16*(v/16))^^^Bi 4 (v%16):=by rw[<-Yq,<-e]
 rw[h,agr,agl,adb ⟨v%16,gW _ ae⟩]
theorem aic:ako<2^64:=au
theorem aid{v:Nat}(h:v<2^64):VM v<2^64:=by
 unfold VM;split
 .exact jB ae aic
 .omega
theorem abu:∀n {v:Nat},v<2^64->Bi n v<2^64
 |0,_,h=>h
 |n+1,_,h=>by rw[Bi];exact abu n (aid h)
theorem aie{v:Nat}(h:v<2^64):agl v<2^64:=by rw[abt];exact abu 4 h
theorem MR:BU<2^64:=au
theorem akp(l:List Nat):crc l<2^64:=anJ (Nat.sub_le _ _) MR
theorem ade:∀l:Fin 16,Dj.getD l.val 0<2^64:=gJ
end Go.Proofs.Y
namespace Go.Proofs.Y
open Go.RowKit
theorem abn{a b:Int}(h:a=b):Ending.returned (.int .u64 a)=.returned (.int .u64 b):=iY
theorem zL(a:Nat)(ha:a<2^64):(BitVec.ofInt 64 (a:Int)).toNat=a:=by rw[ao6,an2];exact bu ha
theorem CX(a:Nat)(ha:a<2^64):IntKind.u64.wrap (a:Int)=(a:Int):=by simp[IntKind.wrap,IntKind.bits,IntKind.signed];omega
theorem Jo{a b:Nat}(ha:a<2^64)(hb:b<2^64):bits .xor .u64 (a:Int) (b:Int)=((a^^^b:Nat):Int):=by show IntKind.u64.wrap ((BitVec.ofInt 64 (a:Int)^^^BitVec.ofInt 64 (b:Int)).toNat:Int)=_;rw[an1,zL a ha,zL b hb,CX _ (jB ha hb)]
theorem adf{a:Nat}(ha:a<2^64):bits .and .u64 (a:Int) 15=((a%16:Nat):Int):=by show IntKind.u64.wrap ((BitVec.ofInt 64 (a:Int)&&&BitVec.ofInt 64 ((15:Nat):Int)).toNat:Int)=_;have h:=Nat.and_two_pow_sub_one_eq_mod a 4;have h15:a&&&15=a%16:=h;rw[BitVec.toNat_and,zL a ha,zL 15 ae,h15,CX _ ae]
theorem ags{a:Nat}:((a:Nat):Int)/16=((a/16:Nat):Int):=ae
theorem aif{s:Nat}(hs:s<2^64):BU^^^s=BU-s:=by
 have h:(BitVec.allOnes 64^^^BitVec.ofNat 64 s).toNat=(~~~BitVec.ofNat 64 s).toNat:=by rw[BitVec.allOnes_xor]
 rw[an1,BitVec.toNat_not,BitVec.toNat_allOnes,an2,bu hs]at h;exact h
theorem aih{s:Nat}(hs:s<2^64):bits .xor .u64 IntKind.u64.max (s:Int)=((BU-s:Nat):Int):=by have e:IntKind.u64.max=((BU:Nat):Int):=au;rw[e,Jo MR hs,aif hs]
theorem adg(v b:Nat)(l:List Nat):QR v (b::l)=QR (aia v b) l:=rfl
theorem adh{k s x m:Nat}{xs:List Nat}(hk:k<xs.length)(ex:xs.getD k 0=x)(H:QR s (xs.drop k)=m):QR (aia s x) (xs.drop (k+1))=m:=by
 rw[List.drop_eq_getElem_cons hk]at H;have e:xs[k]=x:=by rw[<-ex,aO,aY hk];rfl
 rw[e]at H;exact(adg s x _).symm.trans H
theorem four{y:Nat}(hy:y<2^64):∃m t z:Nat,m<16/\t=Dj.getD m 0/\z<2^64/\z=Bi 4 y/\bits .and .u64 (y:Int) 15=(m:Int)/\bits .xor .u64 ((y:Int)/16) (t:Int)=(z:Int):=by refine⟨y%16,_,agl y,gW _ ae,rfl,aie hy,abt y,adf hy,?_⟩;rw[ags,Jo ae (ade ⟨y%16,gW _ ae⟩),agl]
end Go.Proofs.Y
namespace Go.Proofs.Y
open Go.RowKit Go.Deep
structure But(B:Nat)(S:Nat->Prop)(w w':World):Prop where
 os:w'.os=w.os
 tape:w'.tape=w.tape
 output:w'.output=w.output
 size:w.heap.size<=w'.heap.size
 block:∀k,k<B->¬S k->w'.heap[k]?=w.heap[k]?
theorem But.refl(B:Nat)(S:Nat->Prop)(w:World):But B S w w:=⟨rfl,rfl,rfl,ak _,λ_ _ _=>rfl⟩
theorem But.trans{B:Nat}{S:Nat->Prop}{a b c:World}(h:But B S a b)(k:But B S b c):But B S a c:=
 ⟨k.os.trans h.os,k.tape.trans h.tape,k.output.trans h.output,aK h.size k.size,λi hi hs=>(k.block i hi hs).trans (h.block i hi hs)⟩
theorem But.mono{B B':Nat}{S S':Nat->Prop}{a b:World}(h:But B S a b)(hB:B'<=B)(hS:∀k,S k->S' k):But B' S' a b:=
 ⟨h.os,h.tape,h.output,h.size,λk hk hs=>h.block k (aN hk hB) (λx=>hs (hS k x))⟩
theorem But.of_below{B:Nat}{S:Nat->Prop}{a b:World}(h:Below B a b):But B S a b:=⟨h.os,h.tape,h.output,h.size,λk hk _=>h.block k hk⟩
theorem But.setCell{B:Nat}{S:Nat->Prop}{a w:World}(h:But B S a w){p:Addr}(hp:B<=p.block\/S p.block)(u:Value):But B S a (w.setCell p u):=
 h.trans ⟨rfl,rfl,rfl,by simp[World.setCell],λk hk hs=>bG _ _ _ _ (by
  rintro rfl;rcases hp with x|x
  .omega
  .exact hs x)⟩
theorem But.alloc{B:Nat}{S:Nat->Prop}{a w:World}(h:But B S a w)(hB:B<=w.heap.size)(o:Obj):But B S a (w.alloc o):=
 h.trans (.of_below ((aA _ _).alloc hB o))
theorem But.drew{B:Nat}{S:Nat->Prop}{a w:World}(h:But B S a w):But B S a w.drew:=⟨h.os,h.tape,h.output,h.size,h.block⟩
theorem But.grown{B:Nat}{S:Nat->Prop}{a w w':World}{row:Option Nat}(h:But B S a w)(hg:w.grownBy w' row)(hB:B<=w.heap.size)(hr:∀k,row=some k->B<=k):But B S a w':=
 h.trans (.of_below ((aA _ _).grown hg hB hr))
theorem But.cell{B:Nat}{S:Nat->Prop}{w w':World}(h:But B S w w'){p:Addr}(hp:p.block<B)(hs:¬S p.block):w'.cell? p=w.cell? p:=N7 (w:=w) (h.block p.block hp hs)
theorem But.below{B:Nat}{S:Nat->Prop}{w w':World}(h:But B S w w')(hS:∀k,k<B->¬S k):Below B w w':=⟨h.os,h.tape,h.output,h.size,λk hk=>h.block k hk (hS k hk)⟩
def qf(w:World)(b:Nat)(cs:List Value)(t:TypeId):Prop:=w.heap[b]?=some (.cells cs.toArray t (0,0))
theorem qf.cell{w:World}{b:Nat}{cs:List Value}{t:TypeId}(h:qf w b cs t){i:Nat}{v:Value}(hi:cs[i]?=some v):w.cell? ⟨b,i,none⟩=some v:=by unfold qf at h;simp[World.cell?,h,hi]
theorem qf.frozen{w:World}{b:Nat}{cs:List Value}{t:TypeId}(h:qf w b cs t)(i:Nat):w.frozen? ⟨b,i,none⟩=false:=by unfold qf at h;simp[World.frozen?,h]
theorem qf.lt{w:World}{b:Nat}{cs:List Value}{t:TypeId}(h:qf w b cs t):b<w.heap.size:=by unfold qf at h;exact(a_.1 h).1
theorem qf.set{w:World}{b:Nat}{cs:List Value}{t:TypeId}(h:qf w b cs t)(i:Nat)(v:Value):qf (w.setCell ⟨b,i,none⟩ v) b (cs.set i v) t:=by unfold qf at*;simp[World.setCell,gB,h]
theorem qf.later{w w':World}{b:Nat}{cs:List Value}{t:TypeId}{B:Nat}{S:Nat->Prop}(h:qf w b cs t)(hb:But B S w w')(h1:b<B)(h2:¬S b):qf w' b cs t:=by unfold qf at*;rw[hb.block b h1 h2];exact h
theorem qf.made(w:World)(cs:List Value)(t:TypeId):qf (w.alloc (.cells cs.toArray t)) w.heap.size cs t:=by show(w.heap.push _)[w.heap.size]?=_;simp
section
variable {w:World}{sb:Nat}{v:Value}{at_ e p:Nat}
end
def first(e x:Nat):Nat:=if e=0 then x else e
def sH(l:List UInt8)(i:Nat):Nat:=(l.getD i 0).toNat
theorem FM(l:List UInt8)(i:Nat):sH l i<256:=lM _
def le(l:List UInt8)(a:Nat):Nat->Nat
 |0=>0
 |n+1=>sH l a+256*le l (a+1) n
theorem NY(l:List UInt8):∀(n a:Nat),le l a n<256^n
 |0,_=>by simp[le]
 |n+1,a=>by have h1:=FM l a;have h2:=NY l n (a+1);simp only[le,jE];omega
def Ag(w:World)(bb bo:Nat)(l:List UInt8):Prop:=∀i,i<l.length->w.cell? ⟨bb,bo+i,none⟩=some (.int .u8 (sH l i:Int))
theorem Ag.later{w w':World}{bb bo:Nat}{l:List UInt8}{B:Nat}{S:Nat->Prop}(h:Ag w bb bo l)(hb:But B S w w')(h1:bb<B)(h2:¬S bb):Ag w' bb bo l:=λi hi=>(hb.cell (p:=⟨bb,bo+i,none⟩) h1 h2).trans (h i hi)
theorem CY{a b:Int}(h:a=b):Ending.returned (.int .i64 a)=.returned (.int .i64 b):=iY
def Ah(l:List UInt8)(a:Nat):List UInt8->Option (Nat×Nat)
 |[]=>none
 |c::ws=>if l.length<=a then some (4,l.length)else if sH l a=c.toNat then Ah l (a+1) ws else some (5,a)
theorem But.drewN{B:Nat}{S:Nat->Prop}{a w:World}(h:But B S a w)(n:Nat):But B S a (w.drewN n):=h.trans ⟨rfl,rfl,rfl,ak _,λ_ _ _=>rfl⟩
theorem acX(ws:List UInt8)(i:Nat)(hi:i<ws.length):∀w,(Instr.index 9 (.string ⟨ws.toArray⟩) (.int .i64 (i:Int))).run Tryz.prog w=.ok (.int .u8 ((ws.getD i 0).toNat:Int)) w:=by
 intro w;rw[run_index_string w 9 _ _ _ Tryz.underlying9];have h:0<=(i:Int)/\(i:Int)<((⟨ws.toArray⟩:ByteArray).size:Int):=by simp[ByteArray.size];omega
 rw[jV h];have e:ws.getD i 0=ws[i]:=by rw[aO,aY hi];rfl
 rw[e];rfl
theorem Au:(Tryz.prog.info? 5).map (λi=>(i.zero,i.size,i.bytes))=some (some (.int .u8 0),1,1):=ag
def rF(l:List UInt8):List Value:=l.map λb=>Value.int .u8 (b.toNat:Int)
theorem rH(l:List UInt8):(rF l).length=l.length:=dY
theorem QI{l:List UInt8}{j:Nat}{u:Value}(h:(rF l)[j]?=some u):j<l.length/\u=.int .u8 (sH l j:Int):=by
 obtain⟨hj,e⟩:=dH.1 h;have hj':j<l.length:=by simpa[rF]using hj
 refine⟨hj',?_⟩;rw[<-e];simp only[rF,List.getElem_map,sH,aO,aY hj',aB]
theorem Cb(l:List UInt8):∀u∈rF l,u.oneCell'=true:=by intro u hu;simp only[rF,eX]at hu;obtain⟨b,_,rfl⟩:=hu;rfl
theorem Em(b off j:Nat):(⟨b,off,none⟩:Addr).add j=⟨b,off+j,none⟩:=by unfold Addr.add;by_cases h:j=0<;>simp[h]
theorem Ag.news{w:World}{bb bo:Nat}{l:List UInt8}(h:Ag w bb bo l):∀j u,(rF l)[j]?=some u->w.cell? ((⟨bb,bo,none⟩:Addr).add j)=some u:=by intro j u hj;obtain⟨h1,rfl⟩:=QI hj;rw[Em];exact h j h1
def leB:Nat->Nat->List UInt8
 |0,_=>[]
 |n+1,v=>UInt8.ofNat (v%256)::leB n (v/256)
theorem ry:∀n v,(leB n v).length=n
 |0,_=>rfl
 |n+1,v=>by simp[leB,ry n]
theorem WR:∀n v,leB (n+1) v=leB n v++[UInt8.ofNat (v/256^n%256)]
 |0,v=>by simp[leB]
 |n+1,v=>by show UInt8.ofNat (v%256)::leB (n+1) (v/256)=(UInt8.ofNat (v%256)::leB n (v/256))++_;rw[WR n (v/256),aW,aoY,jE,fZ]
def sumOf(l:List UInt8):Nat:=crc (l.map UInt8.toNat)
theorem WT(l:List UInt8)(i:Nat):(l.map UInt8.toNat).getD i 0=sH l i:=by simp only[sH,aO,bQ];cases l[i]?<;>rfl
theorem aeI(l:List UInt8)(x:Nat)(hx:x<256)(m:List UInt8)(e:m=l++[UInt8.ofNat x]):rF l++[.int .u8 (x:Int)]=rF m:=by subst e;simp only[rF,iC,fH,jd];rw[fE,bu (by simpa using hx)]
theorem ahw(x:Int):∀u∈[Value.int .u8 x],u.oneCell'=true:=mW
theorem Jr(l:List UInt8):sumOf l<2^64:=akp _
def part(l:List UInt8)(a n:Nat):List UInt8:=(l.drop a).take n
theorem qE{l:List UInt8}{a n:Nat}(h:a+n<=l.length):(part l a n).length=n:=by simp[part];omega
theorem uh{l:List UInt8}{a n i:Nat}(hi:i<n):sH (part l a n) i=sH l (a+i):=by simp[sH,part,hi]
theorem Ag.part{w:World}{bb bo:Nat}{l:List UInt8}(h:Ag w bb bo l){a n:Nat}(hn:a+n<=l.length):Ag w bb (bo+a) (part l a n):=by intro i hi;rw[qE hn]at hi;rw[uh hi,dB];exact h (a+i) ae
def yH(l:List UInt8)(a n:Nat):Option (Nat×Nat):=
 if l.length<a+n+8 then some (4,l.length)else if part l (a+n) 8=leB 8 (sumOf (part l a n))then none else some (6,a+n)
theorem mixed:Tryz.prog.follows .mixedOrders=true:=ag
theorem GX{P:Program}{id:Nat}{Q:Exit->Act->World->Prop}{a:Act}{w:World}{l:List Oper}(n:Nat)(hm:P.follows .mixedOrders=true)(hB:Region.lexTailB .any l.toArray n=true)
  (h:wpStill P l.toArray w.drew (λa'=>wpList P l.toArray Q (l.drop n) a' w.drew) (l.take n) a):(Code.region id l.toArray true).wp P Q a w:=wp_region_still_tail n hm hB h
theorem yE(bb bo len cap:Nat)(L H:Int)(a h:Nat)(hL:L=a)(hH:H=h)(hah:a<=h)(hc:h<=cap)(ha:a<cap):∀w,(Instr.slice 34 (.slice (some ⟨bb,bo,none⟩) len cap) (some (.int .i64 L)) (some (.int .i64 H)) none).run Tryz.prog w=.ok (.slice (some ⟨bb,bo+a,none⟩) (h-a) (cap-a)) w:=by
 intro w;subst hL hH;have hu:Tryz.prog.underlying 34=some (.slice (Tryz.prog.elem 34)):=Tryz.underlying34;rw[run_slice_lh w 34 _ _ _ hu .i64 .i64 a h ae ae ae]
 have hsz:(sizeOf (Tryz.prog.elem 34)).run Tryz.prog w=.ok 1 w:=by simp[sizeOf,go_sem];rfl
 exact arE
def Lies(w:World)(v:Value)(xs:List Value):Prop:=
 ∃ba cap,v=.slice ba xs.length cap/\xs.length<=cap/\∀j u,xs[j]?=some u->∃b off,ba=some ⟨b,off,none⟩/\w.cell? ⟨b,off+j,none⟩=some u
theorem cell_lt{w:World}{p:Addr}{u:Value}(h:w.cell? p=some u):p.block<w.heap.size:=by
 rcases aT p.block w.heap.size with h1|h1
 .exact h1
 .unfold World.cell? at h;have:w.heap[p.block]?=none:=by simp[h1]
  rw[this]at h;split at h<;>simp_all
theorem Lies.below{w w':World}{v:Value}{xs:List Value}(h:Lies w v xs)(hb:Below w.heap.size w w'):Lies w' v xs:=by obtain⟨ba,cap,rfl,hle,hc⟩:=h;refine⟨ba,cap,rfl,hle,λj u hj=>?_⟩;obtain⟨b,off,e,hh⟩:=hc j u hj;exact⟨b,off,e,(hb.cell (p:=⟨b,off+j,none⟩) (cell_lt hh)).trans hh⟩
def uV(l:List (List UInt8)):List Value:=l.map λs=>Value.string ⟨s.toArray⟩
def Dh(l:List Int):List Value:=l.map λz=>Value.int .i64 z
theorem uK(l:List (List UInt8)):(uV l).length=l.length:=by simp[uV]
theorem Ci(l:List Int):(Dh l).length=l.length:=by simp[Dh]
theorem DR{l:List (List UInt8)}{j:Nat}(h:j<l.length):(uV l)[j]?=some (.string ⟨(l.getD j []).toArray⟩):=by simp[uV,aY h]
theorem U1{l:List Int}{j:Nat}(h:j<l.length):(Dh l)[j]?=some (.int .i64 (l.getD j 0)):=by simp[Dh,aY h]
theorem vJ{l:List UInt8}{j:Nat}(h:j<l.length):(rF l)[j]?=some (.int .u8 (sH l j:Int)):=by obtain⟨u,hu⟩:∃u,(rF l)[j]?=some u:=⟨_,aY (by simpa[rF]using h)⟩;obtain⟨_,rfl⟩:=QI hu;exact hu
def P5(a b:List UInt8):Bool:=Op.bytesLess a b||a==b
structure Sh where
 K:Int
 N:Int
 I:Int
 C:Int
 ns:List (List UInt8)
 zs:List Int
 qx:List UInt8
def uG(ns:List (List UInt8)):Prop:=∀i,i<ns.length->(1<=(ns.getD i []).length/\(ns.getD i []).length<=255)/\(0<i->P5 (ns.getD i []) (ns.getD (i-1) [])=false)
def JP(zs:List Int):Prop:=∀i,i<zs.length->0<=zs.getD i 0
def FC(ns:List (List UInt8)):Nat:=4+(ns.map λn=>6+n.length).sum
def tot(zs:List Int):Nat:=(zs.map Int.toNat).sum
def sF(k t:Nat):Nat:=(t+k-1)/k
structure Sh.Fine(s:Sh):Prop where
 k1:1<=s.K
 kn:s.K<=s.N
 n1:s.N<=128
 i0:0<=s.I
 iN:s.I<s.N
 c1:1<=s.C
 c2:s.C<=65536
structure Sh.Listed(s:Sh):Prop where
 len:s.ns.length=s.zs.length
 names:uG s.ns
 sizes:JP s.zs
structure Sh.Few(s:Sh):Prop where
 adt:s.ns.length<=1000
 bytes:tot s.zs<=65536
 Lj:FC s.ns<=300000
def Sh.Ux(s:Sh):Prop:=s.qx.length=sF s.K.toNat (tot s.zs)
def Sh.Bad(s:Sh):Prop:=s.I<s.K/\∃m,m<s.qx.length/\tot s.zs<=s.I.toNat*sF s.K.toNat (tot s.zs)+m/\sH s.qx m≠0
open Classical in
noncomputable def Sh.err(s:Sh):Nat:=
 if¬s.Fine then 1 else if¬s.Listed then 2 else if¬s.Few then 3 else if¬s.Ux then 15 else if s.Bad then 8 else 0
def uX(ns:List (List UInt8))(zs:List Int)(i:Nat):List UInt8:=leB 4 ns.length++(List.range i).flatMap λj=>leB 2 (ns.getD j []).length++(ns.getD j []++leB 4 (zs.getD j 0).toNat)
theorem PX(ns:List (List UInt8))(zs:List Int)(i:Nat):uX ns zs (i+1)=uX ns zs i++leB 2 (ns.getD i []).length++ns.getD i []++leB 4 (zs.getD i 0).toNat:=by simp[uX,dm]
def rV(l:List UInt8):List UInt8:=l++leB 8 (sumOf l)
def AQ(s:Sh):List UInt8:=uX s.ns s.zs s.ns.length
def b8(x:Int):UInt8:=UInt8.ofNat (x.toNat%256)
def headB(s:Sh)(m:Nat):List UInt8:=[67,65,73,82,78,49]++([b8 s.K,b8 s.N,b8 s.I,0]++(leB 4 s.C.toNat++(leB 4 m++(leB 4 s.qx.length++[0,0]))))
def yg(c:Nat)(qx:List UInt8)(k:Nat):List UInt8:=rV (part qx (k*c) (min c (qx.length-k*c)))
def rU(c:Nat)(qx:List UInt8)(i:Nat):List UInt8:=(List.range i).flatMap (yg c qx)
theorem Il(c:Nat)(qx:List UInt8)(i:Nat):rU c qx (i+1)=rU c qx i++yg c qx i:=by simp[rU,dm]
def Fg(c n:Nat):Nat:=(n+c-1)/c
def OY(s:Sh):List UInt8:=rV (headB s (AQ s).length)++rV (AQ s)++rU s.C.toNat s.qx (Fg s.C.toNat s.qx.length)++[68,79,78,69]
theorem P8{c n k:Nat}(hc:1<=c):k<Fg c n↔k*c<n:=by unfold Fg;rw[Nat.lt_div_iff_mul_lt ae];omega
theorem rY(l:List UInt8):(rV l).length=l.length+8:=by simp[rV,ry]
theorem Ei(ns:List (List UInt8))(zs:List Int):∀i,(uX ns zs i).length=4+((List.range i).map λj=>6+(ns.getD j []).length).sum
 |0=>by simp[uX,ry]
 |i+1=>by rw[PX];simp only[aQ,ry,Ei ns zs i,dm,iC,fH,jd,iw,jc,lY];omega
theorem BV{α β:Type}(l:List α)(d:α)(f:α->β):(List.range l.length).map (λj=>f (l.getD j d))=l.map f:=by
 apply anU
 .simp
 .intro i h1 h2;have:i<l.length:=gG;simp[aY this]
theorem FD(s:Sh):(AQ s).length=FC s.ns:=by unfold AQ FC;rw[Ei,BV s.ns [] (λn=>6+n.length)]
def Aw(ns:List (List UInt8))(i:Nat):Nat:=4+((List.range i).map λj=>6+(ns.getD j []).length).sum
theorem N_(ns:List (List UInt8))(i:Nat):Aw ns (i+1)=Aw ns i+6+(ns.getD i []).length:=by simp only[Aw,dm,iC,fH,jd,iw,jc,lY];omega
theorem I9(ns:List (List UInt8)):Aw ns ns.length=FC ns:=by unfold Aw FC;rw[BV ns [] (λn=>6+n.length)]
def yc(zs:List Int)(i:Nat):Nat:=((List.range i).map λj=>(zs.getD j 0).toNat).sum
theorem Ej(zs:List Int)(i:Nat):yc zs (i+1)=yc zs i+(zs.getD i 0).toNat:=by simp[yc,dm]
theorem MV(zs:List Int):yc zs zs.length=tot zs:=by unfold yc tot;rw[BV zs 0 Int.toNat]
theorem QS(zs:List Int)(i:Nat):∀d,yc zs i<=yc zs (i+d)
 |0=>ak _
 |d+1=>by have:=QS zs i d;rw[<-dB,Ej];omega
theorem PW(zs:List Int){i:Nat}(h:i<=zs.length):yc zs i<=tot zs:=by rw[<-MV];have:=QS zs i (zs.length-i);rwa[show i+(zs.length-i)=zs.length by omega]at this
theorem But.Yc{w w':World}{row:Option Nat}(h:w.grownBy w' row):But w.heap.size (λk=>row=some k) w w':=
 ⟨h.os,h.tape,h.output,h.size,λk hk hs=>h.block k hk (λe=>hs e.symm)⟩
theorem yU{w:World}{base n:Nat}{v:Value}{l:List UInt8}(h:w.ownsRow base 5 1 v n (rF l))(hn:0<n):∃g c,v=.slice (some ⟨g,0,none⟩) l.length c/\n=l.length/\base<=g/\g<w.heap.size/\n<=c/\Ag w g 0 l:=by
 have hl:l.length=n:=ap2;rcases h.2 with⟨_,h0⟩|⟨g,c,cur,rfl,hg,hh,hc,_⟩
 .omega
 refine⟨g,c,by rw[hl],hl.symm,hg,(a_.1 hh).1,hc,λi hi=>?_⟩;have:=h.cellAt i ae;rw[aS,this];exact vJ hi
theorem U2(l:List UInt8):Lib.strCells ⟨l.toArray⟩=rF l:=by simp[Lib.strCells,rF]
end Go.Proofs.Y
namespace Go.Proofs.Y
open Go.RowKit
theorem ahx(b off len cap:Nat)(xs:List Nat)(hl:xs.length=len)(hx:∀i,i<len->xs.getD i 0<256)(hm:len<=9223372036854775807)(w:World)(hc:∀i,i<len->w.cell? ⟨b,off+i,none⟩=some (.int .u8 ((xs.getD i 0:Nat):Int)))
  (ht:∀i,i<16->w.cell? ⟨2,i,none⟩=some (.int .u64 ((Dj.getD i 0:Nat):Int))):
  Calls Tryz.prog 76 #[.slice (some ⟨b,off,none⟩) len cap] w λe w'=>e=.returned (.int .u64 (crc xs:Nat))/\w'=w:=by
 go_enter Tryz.func76,Tryz.ntmps76;go_wp2
 go_loop [3,5,8] (λvs vb vi=>∃k s:Nat,k<=len/\s<2^64/\vs=.int .u64 (s:Int)/\vi=.int .i64 (k:Int)/\Hid (QR s (xs.drop k)=QR BU xs)) (λ_ _ i=>len-(intOf i).toNat)
 case atStart=>exact⟨0,BU,ae,MR,rfl,rfl,rfl⟩
 case round=>
  obtain⟨k,s,hk,hs,rfl,rfl,H⟩:=hrel;by_cases hlt:k<len
  .have hcell:=hc k hlt;have hb:=hx k hlt;obtain⟨x,ex⟩:∃x,xs.getD k 0=x:=⟨_,rfl⟩;rw[ex]at hcell hb;have ey:=Jo hs (Nat.lt_trans hb au);obtain⟨y,hy⟩:∃y,s^^^x=y:=⟨_,rfl⟩;have ly:y<2^64:=hy▸jB hs (Nat.lt_trans hb au);rw[hy]at ey;obtain⟨m1,t1,z1,hm1,ht1,lz1,hz1,e1,e2⟩:=four ly;obtain⟨m2,t2,z2,hm2,ht2,lz2,hz2,e3,e4⟩:=four lz1;have hc1:=ht m1 hm1;have hc2:=ht m2 hm2;rw[<-ht1]at hc1;rw[<-ht2]at hc2
   have G:Hid (QR z2 (xs.drop (k+1))=QR BU xs):=by
    have hz:z2=aia s x:=by rw[hz2,hz1,<-Yr,<-hy];rfl
    rw[hz];exact adh ae ex H.out
   clear ex hc hx ht ht1 ht2 hz1 hz2 hy H;go_wp2
   go_round
   case rel=>exact⟨k+1,z2,ae,lz2,rfl,aV,G⟩
   case measure=>simp[intOf];omega
  .have e:k=xs.length:=ae
   have G:Hid (s=QR BU xs):=by have:=H.out;rw[e,List.drop_length]at this;exact this
   clear H hc hx ht;go_wp2;go_ret;exact⟨abn (by rw[aih hs,crc,<-G.out]),rfl⟩
