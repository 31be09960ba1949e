import Derived.Test.YtnbflnamlpodcaaGreatDoorHpD
import Derived.StillTailTactics
set_option maxHeartbeats 4000000
set_option maxRecDepth 100000
namespace Go.Proofs.Y
open Go.RowKit Go.Deep Go.Hp
theorem anO(B h n:Nat)(f:Nat->qX)(v:ai)(w:ah)(H:HA B h n f v w):
  Calls Tryz.prog 24 #[.pointer (some ⟨h,0,none⟩)] w λr w'=>r=.returned (.int .i64 ((n:Nat):Int))/\w'=w:=by
 have a0:=H.var.cell (i:=0) ag
 obtain⟨bo,cap,rfl⟩:∃bo cap,v=.slice bo n cap:=by exact ayz
 clear H;go_enter Tryz.func24,Tryz.ntmps24;exact ayj
theorem ahE{w:ah}{B n g cap:Nat}{f:Nat->qX}(h:w.ownsRow B 97 3 (.slice (some ⟨g,0,none⟩) (n+1) cap) (n+1) (JH (n+1) f)):w.ownsRow B 97 3 (.slice (some ⟨g,0,none⟩) n cap) n (JH n f):=by
 refine⟨wP n f,.inr ?_⟩;rcases h.2 with⟨h1,_⟩|⟨g',Wn,cur,h1,h2,h3,h4,h5,h6,h7⟩
 .cases h1
 .cases h1;refine⟨g,cap,cur,rfl,h2,h3,ag,h5,h6,?_⟩;have:=bI (List.take (n*3)) h7;rw[List.take_take,oP ag,G5,avT oq]at this;rw[this,jg oq]
def O1(n:Nat)(f:Nat->qX)(x:Nat):qX:=if x=0 then f n else f x
theorem aki{n:Nat}{f:Nat->qX}(h:Hp f (n+1)):abT (O1 n f) n 0:=
 ⟨λc h0 hc hne=>by unfold O1;rw[au hne,au ag];exact h c h0 ag,λc _ _ _ h0=>absurd h0 ag⟩
def anA(B h n:Nat)(f:Nat->qX)(v:ai)(w:ah)(r:Ending)(w':ah):Prop:=r=.returned (.agg #[rH (f 0).k,(f 0).d])/\∃f' v',HA B h n f' v' w'/\qR n (O1 n f) f'/\Hp f' n/\Below h w w'/\B<=w'.heap.size/\∀b,b<w.heap.size->b≠h->some b≠v.ownBlock->w'.heap[b]?=w.heap[b]?
theorem anP(B h n:Nat)(f:Nat->qX)(v:ai)(w:ah)(H:HA B h (n+1) f v w)(hB:B<=w.heap.size)(hn:n<=1048576)(hp:Hp f (n+1)):
  Calls Tryz.prog 25 #[.pointer (some ⟨h,0,none⟩)] w λr w'=>anA B h n f v w r w':=by
 obtain⟨g,cap,rfl,hg,hnc,sU⟩:=H.form ag;have XU:cap<=9223372036854775807:=sU;clear sU;have uI:=H.low
 have nR:(w.alloc (.cells #[.string ⟨#[]⟩,.slice none 0 0] 44)).rowIs w.heap.size 44 2 (λj=>if j=0 then .string ⟨#[]⟩else .slice none 0 0):=
  World.rowIs_alloc w #[.string ⟨#[]⟩,.slice none 0 0] 44 _ (λi hi=>by have:i=0\/i=1:=jq;rcases this with rfl|rfl<;>rfl)
 have H0:HA B h (n+1) f (.slice (some ⟨g,0,none⟩) (n+1) cap) (w.alloc (.cells #[.string ⟨#[]⟩,.slice none 0 0] 44)):=⟨H.var.alloc _,H.own.alloc _,H.low⟩;have b0:Below h w (w.alloc (.cells #[.string ⟨#[]⟩,.slice none 0 0] 44)):=(aT _ _).alloc ag _;have s0:(w.alloc (.cells #[.string ⟨#[]⟩,.slice none 0 0] 44)).heap.size=w.heap.size+1:=ax;clear H;generalize Nu:w.alloc (.cells #[.string ⟨#[]⟩,.slice none 0 0] 44)=w0 at*
 have n1:(w0.alloc (.cells #[rH (f 0).k,(f 0).d] 44)).rowIs (w.heap.size+1) 44 2 (λj=>if j=0 then rH (f 0).k else(f 0).d):=by
  rw[<-s0]
  exact World.rowIs_alloc w0 #[rH (f 0).k,(f 0).d] 44 _ (λi hi=>by have:i=0\/i=1:=jq;rcases this with rfl|rfl<;>rfl)
 have nR1:=nR.alloc (.cells #[rH (f 0).k,(f 0).d] 44);have H1:HA B h (n+1) f (.slice (some ⟨g,0,none⟩) (n+1) cap) (w0.alloc (.cells #[rH (f 0).k,(f 0).d] 44)):=⟨H0.var.alloc _,H0.own.alloc _,H0.low⟩;have b1:=b0.alloc ag (.cells #[rH (f 0).k,(f 0).d] 44);have s1:(w0.alloc (.cells #[rH (f 0).k,(f 0).d] 44)).heap.size=w.heap.size+2:=aS;have a0:=H0.var.cell (i:=0) ag;obtain⟨c0,c1,c2⟩:=H0.at 0 ag;have a1:=H1.var.cell (i:=0) ag;obtain⟨d0,d1,d2⟩:=H1.at n ag;obtain⟨e0,_,_⟩:=H1.at 0 ag;simp only[gX,bM]at c0 c1 c2 e0;have o0:=H1.own;have ex:∀{w:ah}{xs:aK},w.ownsRow B 97 3 (.slice (some ⟨g,0,none⟩) (n+1) cap) (n+1) xs->∀p,p<(n+1)*3->∃y,w.cell? ⟨g,p,none⟩=some y:=λ{w xs} o p hp=>⟨xs[p]' awz,awy⟩;have z0:=o0.frozenAt 0;have o1:=(o0.stored 0 (rH (f n).k)).1;obtain⟨y1,e1⟩:=ex o1 1 ag;have z1:=o1.frozenAt 1;have o2:=(o1.stored 1 (rH (f n).k)).1;obtain⟨y2,e2⟩:=ex o2 2 ag;have z2:=o2.frozenAt 2;have o3:=(o2.stored 2 (f n).d).1;have hes:=Vw (n+1) f 0 ag (f n);simp only[gX,bM]at hes;rw[hes]at o3;have hgh:h≠g:=ag
 have hgR:w.heap.size≠g:=by
  have:=(H0.own.lt g rfl).2;intro e;subst e;rcases nR with⟨cR,q1,q2,_⟩;rcases H0.own.2 with⟨q,_⟩|⟨g',Wn,cur,q,_,q3,_⟩
  .cases q
  .cases q;rw[q1]at q3;cases q3
 have hgF:w.heap.size+1≠g:=by have:=(H0.own.lt g rfl).2;omega
 have H2:HA B h (n+1) (O1 n f) (.slice (some ⟨g,0,none⟩) (n+1) cap) ((((w0.alloc (.cells #[rH (f 0).k,(f 0).d] 44)).setCell ⟨g,0,none⟩ (rH (f n).k)).setCell ⟨g,1,none⟩ (rH (f n).k)).setCell ⟨g,2,none⟩ (f n).d):=
  ⟨((H1.var.setOther (a:=⟨g,0,none⟩) hgh _).setOther (a:=⟨g,1,none⟩) hgh _).setOther (a:=⟨g,2,none⟩) hgh _,o3,H1.low⟩
 have n2:=((n1.setOther (a:=⟨g,0,none⟩) hgF (rH (f n).k)).setOther (a:=⟨g,1,none⟩) hgF (rH (f n).k)).setOther (a:=⟨g,2,none⟩) hgF (f n).d;have nR2:=((nR1.setOther (a:=⟨g,0,none⟩) hgR (rH (f n).k)).setOther (a:=⟨g,1,none⟩) hgR (rH (f n).k)).setOther (a:=⟨g,2,none⟩) hgR (f n).d;have b2:=((b1.setCell (p:=⟨g,0,none⟩) (show h<=g by omega) (rH (f n).k)).setCell (p:=⟨g,1,none⟩) (show h<=g by omega) (rH (f n).k)).setCell (p:=⟨g,2,none⟩) (show h<=g by omega) (f n).d
 have f2:∀b,b<w.heap.size->b≠g->((((w0.alloc (.cells #[rH (f 0).k,(f 0).d] 44)).setCell ⟨g,0,none⟩ (rH (f n).k)).setCell ⟨g,1,none⟩ (rH (f n).k)).setCell ⟨g,2,none⟩ (f n).d).heap[b]?=w.heap[b]?:=λb hb hne=>by rw[dD _ _ _ _ hne,dD _ _ _ _ hne,dD _ _ _ _ hne,dI _ _ _ ag,<-Nu,dI _ _ _ hb]
 have s2:((((w0.alloc (.cells #[rH (f 0).k,(f 0).d] 44)).setCell ⟨g,0,none⟩ (rH (f n).k)).setCell ⟨g,1,none⟩ (rH (f n).k)).setCell ⟨g,2,none⟩ (f n).d).heap.size=w.heap.size+2:=aS;clear o0 o1 o2 o3 hes ex H1 n1 nR1 b1 s1 nR b0;have ed:((n:Int)+1)-1=(n:Int):=ag;have Hg:(n:Int)<((n+1:Nat):Int):=ag;have Ci:(n:Int)<=(cap:Int):=ag;go_enter Tryz.func25,Tryz.ntmps25;simp only[rH,qX.d]at*;go_wp2;subst Nu;go_region;clear a0 c0 c1 c2 a1 d0 d1 d2 e0 e1 e2 z0 z1 z2 H0 s0 y1 y2;generalize((((w.alloc (.cells #[.string ⟨#[]⟩,.slice none 0 0] 44)).alloc (.cells #[.string ⟨(f 0).k.toArray⟩,.slice (f 0).a (f 0).l (f 0).c] 44)).setCell ⟨g,0,none⟩ (.string ⟨(f n).k.toArray⟩)).setCell ⟨g,1,none⟩ (.string ⟨(f n).k.toArray⟩)).setCell ⟨g,2,none⟩ (.slice (f n).a (f n).l (f n).c)=W2 at*;replace H2:HA B h (n+1) (O1 n f) (.slice (some ⟨g,0,none⟩) (n+1) cap) W2.drew:=⟨H2.var,H2.own,H2.low⟩;replace n2:W2.drew.rowIs (w.heap.size+1) 44 2 (λj=>if j=0 then .string ⟨(f 0).k.toArray⟩else .slice (f 0).a (f 0).l (f 0).c):=n2;replace nR2:W2.drew.rowIs w.heap.size 44 2 (λj=>if j=0 then .string ⟨#[]⟩else .slice none 0 0):=nR2;replace b2:Below h w W2.drew:=⟨b2.os,b2.tape,b2.output,b2.size,b2.block⟩;replace s2:W2.drew.heap.size=w.heap.size+2:=s2;replace f2:∀b,b<w.heap.size->b≠g->W2.drew.heap[b]?=w.heap[b]?:=f2;generalize W2.drew=W3 at*;have g0:=H2.var.cell (i:=0) ag;have g1:=H2.var.frozen 0
 have H3:HA B h n (O1 n f) (.slice (some ⟨g,0,none⟩) n cap) (W3.setCell ⟨h,0,none⟩ (.slice (some ⟨g,0,none⟩) n cap)):=
  ⟨(H2.var.set 0 (.slice (some ⟨g,0,none⟩) n cap)).congr λi hi=>avt,eQ (ahE H2.own) (a:=⟨h,0,none⟩) uI _,uI⟩
 have n3:=n2.setOther (a:=⟨h,0,none⟩) (show w.heap.size+1≠h by omega) (.slice (some ⟨g,0,none⟩) n cap);have nR3:=nR2.setOther (a:=⟨h,0,none⟩) (show w.heap.size≠h by omega) (.slice (some ⟨g,0,none⟩) n cap);have b3:=b2.setCell (p:=⟨h,0,none⟩) (az _) (.slice (some ⟨g,0,none⟩) n cap);have s3:(W3.setCell ⟨h,0,none⟩ (.slice (some ⟨g,0,none⟩) n cap)).heap.size=w.heap.size+2:=by simp;exact s2
 have k5:=Z9 B h n 0 (O1 n f) _ _ H3 ag (.inr rfl) (aki hp);rw[show((0:Nat):Int)=0 from rfl]at k5;clear H2 n2 nR2 b2 s2
 go_wp2_with(first|(go_at_call 42;(with_reducible refine k5.mono ?_);rintro r W5 ⟨rfl,f',H5,hR5,hp5,P_⟩;have n5:=n3.of_block (P_.block (w.heap.size+1) ag (λe=>hgF (gp e)));have nR5:=nR3.of_block (P_.block w.heap.size ag (λe=>hgR (gp e)));have q0:=n5.cell (i:=0) ag;have q1:=n5.cell (i:=1) ag;have q2:=nR5.cell (i:=0) ag;have q3:=nR5.frozen 0;have q4:=(nR5.set 0 (.string ⟨(f 0).k.toArray⟩)).cell (i:=1) ag;have q5:=(nR5.set 0 (.string ⟨(f 0).k.toArray⟩)).frozen 1;simp only[aX,kQ,bQ]at q0 q1 q2 q4))
 have hr6:=(nR5.set 0 (.string ⟨(f 0).k.toArray⟩)).set 1 (.slice (f 0).a (f 0).l (f 0).c)
 have H6:HA B h n f' (.slice (some ⟨g,0,none⟩) n cap) ((W5.setCell ⟨w.heap.size,0,none⟩ (.string ⟨(f 0).k.toArray⟩)).setCell ⟨w.heap.size,1,none⟩ (.slice (f 0).a (f 0).l (f 0).c)):=
  ⟨(H5.var.setOther (a:=⟨w.heap.size,0,none⟩) (show h≠w.heap.size by omega) _).setOther (a:=⟨w.heap.size,1,none⟩) (show h≠w.heap.size by omega) _,ownsRow_setCell_other (ownsRow_setCell_other H5.own (a:=⟨w.heap.size,0,none⟩) (λe=>hgR (gp e).symm) _) (a:=⟨w.heap.size,1,none⟩) (λe=>hgR (gp e).symm) _,uI⟩
 have hb6:Below h w ((W5.setCell ⟨w.heap.size,0,none⟩ (.string ⟨(f 0).k.toArray⟩)).setCell ⟨w.heap.size,1,none⟩ (.slice (f 0).a (f 0).l (f 0).c)):=
  ((b3.trans (P_.below ag (λx hx=>by have e:g=x:=gp hx;omega))).setCell (p:=⟨w.heap.size,0,none⟩) (show h<=w.heap.size by omega) _).setCell (p:=⟨w.heap.size,1,none⟩) (show h<=w.heap.size by omega) _
 have hs6:B<=((W5.setCell ⟨w.heap.size,0,none⟩ (.string ⟨(f 0).k.toArray⟩)).setCell ⟨w.heap.size,1,none⟩ (.slice (f 0).a (f 0).l (f 0).c)).heap.size:=by have:=P_.size;simp;omega
 obtain⟨cR,r1,r2,r3⟩:=hr6
 have hcR:cR=#[.string ⟨(f 0).k.toArray⟩,.slice (f 0).a (f 0).l (f 0).c]:=by
  have q0:=r3 0 ag;have q1:=r3 1 ag;dsimp only at q0 q1;rw[au ag,ay rfl]at q0;rw[ay rfl]at q1;apply mi;intro i
  match i with
  |0=>rw[q0];rfl
  |1=>rw[q1];rfl
  |i+2=>rw[kW ag,kW ax]
 subst hcR;refine iD (oI (p:=2) rfl _ _ w.heap.size 44 _ (0,0) _ aI r1 Tryz.underlying44 rfl aj) rfl ?_;refine⟨rfl,f',_,H6,hR5,hp5,hb6,hs6,λb hb hbh hbg=>?_⟩;have atU:b≠g:=λe=>hbg avw
 rw[dD _ _ _ _ (show b≠w.heap.size by omega),dD _ _ _ _ (show b≠w.heap.size by omega),P_.block b ag hbg,dD _ _ _ _ hbh,f2 b hb atU]
end Go.Proofs.Y
namespace Go.Proofs.Y
def agE:Nat:=14514072000185962306
def zt:Nat:=18446744073709551615
def U7(v:Nat):Nat:=if v%2=1 then(v/2)^^^agE else v/2
def zq:Nat->Nat->Nat
 |0,v=>v
 |n+1,v=>zq n (U7 v)
def akY(v b:Nat):Nat:=zq 8 (v^^^b)
def Jb(v:Nat):aA->Nat
 |[]=>v
 |b::l=>Jb (akY v b) l
def crc(l:aA):Nat:=zt-Jb zt l
def Gg:aA:=[0,9051005139383707209,18102010278767414418,9704381199536204507,7257036000092981153,1814259000023245288,11493583972846619443,16292555063049989498,14514072000185962306,13040162471224305931,3628518000046490576,5746791986423309721,12527462061959317731,15006518869663149738,6263731030979658865,3131865515489829432]
def akZ(v:Nat):Nat:=(v/16)^^^Gg.getD (v%16) 0
theorem ak0(b d:Nat):(b^^^d)%2=if b%2=d%2 then 0 else 1:=by exact azX
theorem ak1(b d:Nat):(b^^^d)/2=(b/2)^^^(d/2):=by exact ay9
theorem abk(a b c d:Nat):(a^^^b)^^^(c^^^d)=(a^^^c)^^^(b^^^d):=by rw[dG,dG];congr 1;rw[<-dG,jv b,dG]
theorem ak2(a b:Nat):U7 (a^^^b)=U7 a^^^U7 b:=by
 unfold U7;generalize agE=C;rw[ak0,ak1];have h1:a%2=0\/a%2=1:=ag;have h2:b%2=0\/b%2=1:=ag;rcases h1 with h1|h1<;>rcases h2 with h2|h2<;>simp[h1,h2]
 .rw[dG]
 .rw[dG,dG,jv C]
 .rw[abk,jc,nI]
theorem OZ:∀n a b,zq n (a^^^b)=zq n a^^^zq n b
 |0,_,_=>rfl
 |n+1,a,b=>by rw[zq,zq,zq,ak2,OZ n]
theorem OY:∀n m v,zq (n+m) v=zq m (zq n v)
 |0,m,v=>by simp[zq]
 |n+1,m,v=>by rw[Nat.succ_add,zq,zq,OY n]
theorem Yk(v:Nat):U7 (2*v)=v:=by unfold U7;rw[au ag];omega
theorem ak3(h:Nat):zq 4 (16*h)=h:=by have e:16*h=2*(2*(2*(2*h))):=ag;rw[e];simp only[zq,Yk]
theorem ahF:∀l:Fin 16,Gg.getD l.val 0=zq 4 l.val:=iM
theorem anB(v:Nat):v=(16*(v/16))^^^(v%16):=by
 have h:=aw1 (i:=4) (b:=v%16) ag (v/16);have e:v=2^4*(v/16)+v%16:=ag
 have h2:2^4*(v/16)|||v%16=(2^4*(v/16))^^^(v%16):=by
  apply oZ;intro i;rw[Nat.testBit_or,Nat.testBit_xor,Nat.testBit_two_pow_mul,show v%16=v%2^4 from rfl,Nat.testBit_mod_two_pow];by_cases hi:i<4
  .simp[hi,Nat.not_le.2 hi]
  .simp[hi,Nat.not_lt.1 hi]
 rw[h2]at h
 calc v=2^4*(v/16)+v%16:=e
  _=_:=h
theorem afW(v:Nat):akZ v=zq 4 v:=by
 have e:=anB v;have h:zq 4 v=zq 4 (16*(v/16))^^^zq 4 (v%16):=by rw[<-OZ,<-e]
 rw[h,ak3,akZ,ahF ⟨v%16,iR _ ag⟩]
theorem anC:agE<2^64:=aC
theorem afm{v:Nat}(h:v<2^64):U7 v<2^64:=by
 unfold U7;split
 .exact iQ ag anC
 .omega
theorem aaE:∀n {v:Nat},v<2^64->zq n v<2^64
 |0,_,h=>h
 |n+1,_,h=>by rw[zq];exact aaE n (afm h)
theorem anD{v b:Nat}(h:v<2^64)(hb:b<256):akY v b<2^64:=aaE 8 (iQ h ag)
theorem afk:∀(l:aA){v:Nat},v<2^64->(∀b∈l,b<256)->Jb v l<2^64
 |[],_,h,_=>h
 |b::l,_,h,hl=>afk l (anD h (hl b (List.mem_cons_self ..))) (λc hc=>hl c (lU _ hc))
theorem anE{v:Nat}(h:v<2^64):akZ v<2^64:=by rw[afW];exact aaE 4 h
theorem Lr:zt<2^64:=aC
theorem aqh(l:aA):crc l<2^64:=jw (Nat.sub_le _ _) Lr
theorem ahG:∀l:Fin 16,Gg.getD l.val 0<2^64:=iM
end Go.Proofs.Y
namespace Go.Proofs.Y
open Go.RowKit
theorem afX{a b:Int}(h:a=b):Ending.returned (.int .u64 a)=.returned (.int .u64 b):=jP
theorem Cb(a:Nat)(ha:a<2^64):(BitVec.ofInt 64 (a:Int)).toNat=a:=by rw[av8,pR];exact cu ha
theorem F5(a:Nat)(ha:a<2^64):IntKind.u64.wrap (a:Int)=(a:Int):=by simp[IntKind.wrap,IntKind.bits,IntKind.signed];omega
theorem Ob{a b:Nat}(ha:a<2^64)(hb:b<2^64):bits .xor .u64 (a:Int) (b:Int)=((a^^^b:Nat):Int):=by show IntKind.u64.wrap ((BitVec.ofInt 64 (a:Int)^^^BitVec.ofInt 64 (b:Int)).toNat:Int)=_;rw[av7,Cb a ha,Cb b hb,F5 _ (iQ ha hb)]
theorem ahH{a:Nat}(ha:a<2^64):bits .and .u64 (a:Int) 15=((a%16:Nat):Int):=by show IntKind.u64.wrap ((BitVec.ofInt 64 (a:Int)&&&BitVec.ofInt 64 ((15:Nat):Int)).toNat:Int)=_;have h:=Nat.and_two_pow_sub_one_eq_mod a 4;have h15:a&&&15=a%16:=h;rw[BitVec.toNat_and,Cb a ha,Cb 15 ag,h15,F5 _ ag]
theorem ak4{a:Nat}:((a:Nat):Int)/16=((a/16:Nat):Int):=ag
theorem afl{s:Nat}(hs:s<2^64):zt^^^s=zt-s:=by
 have h:(BitVec.allOnes 64^^^BitVec.ofNat 64 s).toNat=(~~~BitVec.ofNat 64 s).toNat:=by rw[BitVec.allOnes_xor]
 rw[av7,BitVec.toNat_not,BitVec.toNat_allOnes,pR,cu hs]at h;exact h
theorem anF{s:Nat}(hs:s<2^64):bits .xor .u64 IntKind.u64.max (s:Int)=((zt-s:Nat):Int):=by have e:IntKind.u64.max=((zt:Nat):Int):=aC;rw[e,Ob Lr hs,afl hs]
theorem Lp(v b:Nat)(l:aA):Jb v (b::l)=Jb (akY v b) l:=rfl
theorem ahI{k s x m:Nat}{xs:aA}(hk:k<xs.length)(ex:xs.getD k 0=x)(H:Jb s (xs.drop k)=m):Jb (akY s x) (xs.drop (k+1))=m:=by
 rw[List.drop_eq_getElem_cons hk]at H;have e:xs[k]=x:=by rw[<-ex,bH,cO hk];rfl
 rw[e]at H;exact(Lp s x _).symm.trans H
theorem four{y:Nat}(hy:y<2^64):∃m t z:Nat,m<16/\t=Gg.getD m 0/\z<2^64/\z=zq 4 y/\bits .and .u64 (y:Int) 15=(m:Int)/\bits .xor .u64 ((y:Int)/16) (t:Int)=(z:Int):=by refine⟨y%16,_,akZ y,iR _ ag,rfl,anE hy,afW y,ahH hy,?_⟩;rw[ak4,Ob ag (ahG ⟨y%16,iR _ ag⟩),akZ]
end Go.Proofs.Y
namespace Go.Proofs.Y
open Go.RowKit Go.Deep
structure rQ(B:Nat)(S:Nat->Prop)(w w':ah):Prop where
 os:w'.os=w.os
 tape:w'.tape=w.tape
 output:w'.output=w.output
 size:w.heap.size<=w'.heap.size
 block:∀k,k<B->¬S k->w'.heap[k]?=w.heap[k]?
theorem rQ.refl(B:Nat)(S:Nat->Prop)(w:ah):rQ B S w w:=⟨rfl,rfl,rfl,az _,λ_ _ _=>rfl⟩
theorem rQ.trans{B:Nat}{S:Nat->Prop}{a b c:ah}(h:rQ B S a b)(k:rQ B S b c):rQ B S a c:=
 ⟨k.os.trans h.os,k.tape.trans h.tape,k.output.trans h.output,bu h.size k.size,λi hi hs=>(k.block i hi hs).trans (h.block i hi hs)⟩
theorem rQ.mono{B B':Nat}{S S':Nat->Prop}{a b:ah}(h:rQ B S a b)(hB:B'<=B)(hS:∀k,S k->S' k):rQ B' S' a b:=
 ⟨h.os,h.tape,h.output,h.size,λk hk hs=>h.block k (bG hk hB) (λx=>hs (hS k x))⟩
theorem rQ.qF{B:Nat}{S:Nat->Prop}{a b:ah}(h:Below B a b):rQ B S a b:=⟨h.os,h.tape,h.output,h.size,λk hk _=>h.block k hk⟩
theorem rQ.setCell{B:Nat}{S:Nat->Prop}{a w:ah}(h:rQ B S a w){p:Addr}(hp:B<=p.block\/S p.block)(u:ai):rQ B S a (w.setCell p u):=
 h.trans ⟨rfl,rfl,rfl,by simp[World.setCell],λk hk hs=>dD _ _ _ _ (by
  rintro rfl;rcases hp with x|x
  .omega
  .exact hs x)⟩
theorem rQ.alloc{B:Nat}{S:Nat->Prop}{a w:ah}(h:rQ B S a w)(hB:B<=w.heap.size)(o:Obj):rQ B S a (w.alloc o):=
 h.trans (.qF ((aT _ _).alloc hB o))
theorem rQ.drew{B:Nat}{S:Nat->Prop}{a w:ah}(h:rQ B S a w):rQ B S a w.drew:=⟨h.os,h.tape,h.output,h.size,h.block⟩
theorem rQ.grown{B:Nat}{S:Nat->Prop}{a w w':ah}{row:Option Nat}(h:rQ B S a w)(hg:w.grownBy w' row)(hB:B<=w.heap.size)(hr:∀k,row=some k->B<=k):rQ B S a w':=
 h.trans (.qF ((aT _ _).grown hg hB hr))
theorem rQ.cell{B:Nat}{S:Nat->Prop}{w w':ah}(h:rQ B S w w'){p:Addr}(hp:p.block<B)(hs:¬S p.block):w'.cell? p=w.cell? p:=avM (w:=w) (h.block p.block hp hs)
theorem rQ.below{B:Nat}{S:Nat->Prop}{w w':ah}(h:rQ B S w w')(hS:∀k,k<B->¬S k):Below B w w':=⟨h.os,h.tape,h.output,h.size,λk hk=>h.block k hk (hS k hk)⟩
def ql(w:ah)(b:Nat)(cs:aK)(t:aF):Prop:=w.heap[b]?=some (.cells cs.toArray t (0,0))
theorem ql.cell{w:ah}{b:Nat}{cs:aK}{t:aF}(h:ql w b cs t){i:Nat}{v:ai}(hi:cs[i]?=some v):w.cell? ⟨b,i,none⟩=some v:=by unfold ql at h;simp[World.cell?,h,hi]
theorem ql.frozen{w:ah}{b:Nat}{cs:aK}{t:aF}(h:ql w b cs t)(i:Nat):w.frozen? ⟨b,i,none⟩=false:=by unfold ql at h;simp[World.frozen?,h]
theorem ql.lt{w:ah}{b:Nat}{cs:aK}{t:aF}(h:ql w b cs t):b<w.heap.size:=by unfold ql at h;exact(dh.1 h).1
theorem ql.set{w:ah}{b:Nat}{cs:aK}{t:aF}(h:ql w b cs t)(i:Nat)(v:ai):ql (w.setCell ⟨b,i,none⟩ v) b (cs.set i v) t:=by unfold ql at*;simp[World.setCell,iJ,h]
theorem ql.later{w w':ah}{b:Nat}{cs:aK}{t:aF}{B:Nat}{S:Nat->Prop}(h:ql w b cs t)(hb:rQ B S w w')(h1:b<B)(h2:¬S b):ql w' b cs t:=by unfold ql at*;rw[hb.block b h1 h2];exact h
theorem ql.made(w:ah)(cs:aK)(t:aF):ql (w.alloc (.cells cs.toArray t)) w.heap.size cs t:=by show(w.heap.push _)[w.heap.size]?=_;simp
section
variable {w:ah}{sb:Nat}{v:ai}{at_ e p:Nat}
end
def first(e x:Nat):Nat:=if e=0 then x else e
def tZ(l:ak)(i:Nat):Nat:=(l.getD i 0).toNat
theorem EG(l:ak)(i:Nat):tZ l i<256:=nG _
def le(l:ak)(a:Nat):Nat->Nat
 |0=>0
 |n+1=>tZ l a+256*le l (a+1) n
theorem SY(l:ak):∀(n a:Nat),le l a n<256^n
 |0,_=>by simp[le]
 |n+1,a=>by have h1:=EG l a;have h2:=SY l n (a+1);simp only[le,jd];omega
def Dv(w:ah)(bb bo:Nat)(l:ak):Prop:=∀i,i<l.length->w.cell? ⟨bb,bo+i,none⟩=some (.int .u8 (tZ l i:Int))
theorem Dv.later{w w':ah}{bb bo:Nat}{l:ak}{B:Nat}{S:Nat->Prop}(h:Dv w bb bo l)(hb:rQ B S w w')(h1:bb<B)(h2:¬S bb):Dv w' bb bo l:=λi hi=>(hb.cell (p:=⟨bb,bo+i,none⟩) h1 h2).trans (h i hi)
theorem FV{a b:Int}(h:a=b):Ending.returned (.int .i64 a)=.returned (.int .i64 b):=jP
def DK(l:ak)(a:Nat):ak->Option (Nat×Nat)
 |[]=>none
 |c::ws=>if l.length<=a then some (4,l.length)else if tZ l a=c.toNat then DK l (a+1) ws else some (5,a)
theorem rQ.drewN{B:Nat}{S:Nat->Prop}{a w:ah}(h:rQ B S a w)(n:Nat):rQ B S a (w.drewN n):=h.trans ⟨rfl,rfl,rfl,az _,λ_ _ _=>rfl⟩
theorem ahJ(ws:ak)(i:Nat)(hi:i<ws.length):∀w,(Instr.index 9 (.string ⟨ws.toArray⟩) (.int .i64 (i:Int))).run Tryz.prog w=.ok (.int .u8 ((ws.getD i 0).toNat:Int)) w:=by
 intro w;rw[run_index_string w 9 _ _ _ Tryz.underlying9];have h:0<=(i:Int)/\(i:Int)<((⟨ws.toArray⟩:ByteArray).size:Int):=by simp[ByteArray.size];omega
 rw[lI h];have e:ws.getD i 0=ws[i]:=by rw[bH,cO hi];rfl
 rw[e];rfl
theorem BJ:(Tryz.prog.info? 5).map (λi=>(i.zero,i.size,i.bytes))=some (some (.int .u8 0),1,1):=aj
def sJ(l:ak):aK:=l.map λb=>Value.int .u8 (b.toNat:Int)
theorem sZ(l:ak):(sJ l).length=l.length:=eX
theorem VV{l:ak}{j:Nat}{u:ai}(h:(sJ l)[j]?=some u):j<l.length/\u=.int .u8 (tZ l j:Int):=by
 obtain⟨hj,e⟩:=fJ.1 h;have Jh:j<l.length:=by simpa[sJ]using hj
 refine⟨Jh,?_⟩;rw[<-e];simp only[sJ,List.getElem_map,tZ,bH,cO Jh,aQ]
theorem FO(l:ak):∀u∈sJ l,u.oneCell'=true:=by intro u hu;simp only[sJ,gz]at hu;obtain⟨b,_,rfl⟩:=hu;rfl
theorem H7(b off j:Nat):(⟨b,off,none⟩:Addr).add j=⟨b,off+j,none⟩:=by unfold Addr.add;by_cases h:j=0<;>simp[h]
theorem Dv.news{w:ah}{bb bo:Nat}{l:ak}(h:Dv w bb bo l):∀j u,(sJ l)[j]?=some u->w.cell? ((⟨bb,bo,none⟩:Addr).add j)=some u:=by intro j u hj;obtain⟨h1,rfl⟩:=VV hj;rw[H7];exact h j h1
def u_:Nat->Nat->ak
 |0,_=>[]
 |n+1,v=>UInt8.ofNat (v%256)::u_ n (v/256)
theorem ru:∀n v,(u_ n v).length=n
 |0,_=>rfl
 |n+1,v=>by simp[u_,ru n]
theorem abv:∀n v,u_ (n+1) v=u_ n v++[UInt8.ofNat (v/256^n%256)]
 |0,v=>by simp[u_]
 |n+1,v=>by show UInt8.ofNat (v%256)::u_ (n+1) (v/256)=(UInt8.ofNat (v%256)::u_ n (v/256))++_;rw[abv n (v/256),bT,aw5,jd,gu]
def sumOf(l:ak):Nat:=crc (l.map UInt8.toNat)
theorem abw(l:ak)(i:Nat):(l.map UInt8.toNat).getD i 0=tZ l i:=by simp only[tZ,bH,dO];cases l[i]?<;>rfl
theorem aje(l:ak)(x:Nat)(hx:x<256)(m:ak)(e:m=l++[UInt8.ofNat x]):sJ l++[.int .u8 (x:Int)]=sJ m:=by subst e;simp only[sJ,jh,gU,jU];rw[fP,cu (by simpa using hx)]
theorem amw(x:Int):∀u∈[Value.int .u8 x],u.oneCell'=true:=avy
theorem JG(l:ak):sumOf l<2^64:=aqh _
def part(l:ak)(a n:Nat):ak:=(l.drop a).take n
theorem qN{l:ak}{a n:Nat}(h:a+n<=l.length):(part l a n).length=n:=by simp[part];omega
theorem vI{l:ak}{a n i:Nat}(hi:i<n):tZ (part l a n) i=tZ l (a+i):=by simp[tZ,part,hi]
theorem Dv.part{w:ah}{bb bo:Nat}{l:ak}(h:Dv w bb bo l){a n:Nat}(hn:a+n<=l.length):Dv w bb (bo+a) (part l a n):=by intro i hi;rw[qN hn]at hi;rw[vI hi,dW];exact h (a+i) ag
def AA(l:ak)(a n:Nat):Option (Nat×Nat):=
 if l.length<a+n+8 then some (4,l.length)else if part l (a+n) 8=u_ 8 (sumOf (part l a n))then none else some (6,a+n)
theorem mixed:Tryz.prog.follows .mixedOrders=true:=aj
theorem EO{P:aN}{id:Nat}{Q:Exit->Act->ah->Prop}{a:Act}{w:ah}{l:List Oper}(n:Nat)(hm:P.follows .mixedOrders=true)(hB:Region.lexTailB .any l.toArray n=true)
  (h:wpStill P l.toArray w.drew (λa'=>wpList P l.toArray Q (l.drop n) a' w.drew) (l.take n) a):(Code.region id l.toArray true).wp P Q a w:=wp_region_still_tail n hm hB h
theorem Aj(bb bo len cap:Nat)(L H:Int)(a h:Nat)(hL:L=a)(hH:H=h)(hah:a<=h)(hc:h<=cap)(ha:a<cap):∀w,(Instr.slice 34 (.slice (some ⟨bb,bo,none⟩) len cap) (some (.int .i64 L)) (some (.int .i64 H)) none).run Tryz.prog w=.ok (.slice (some ⟨bb,bo+a,none⟩) (h-a) (cap-a)) w:=by
 intro w;subst hL hH;have hu:Tryz.prog.underlying 34=some (.slice (Tryz.prog.elem 34)):=Tryz.underlying34;rw[run_slice_lh w 34 _ _ _ hu .i64 .i64 a h ag ag ag]
 have hsz:(sizeOf (Tryz.prog.elem 34)).run Tryz.prog w=.ok 1 w:=by simp[sizeOf,go_sem];rfl
 exact azS
def qU(w:ah)(v:ai)(xs:aK):Prop:=
 ∃ba cap,v=.slice ba xs.length cap/\xs.length<=cap/\∀j u,xs[j]?=some u->∃b off,ba=some ⟨b,off,none⟩/\w.cell? ⟨b,off+j,none⟩=some u
theorem rG{w:ah}{p:Addr}{u:ai}(h:w.cell? p=some u):p.block<w.heap.size:=by
 rcases bJ p.block w.heap.size with h1|h1
 .exact h1
 .unfold World.cell? at h;have:w.heap[p.block]?=none:=by simp[h1]
  rw[this]at h;split at h<;>simp_all
theorem qU.below{w w':ah}{v:ai}{xs:aK}(h:qU w v xs)(hb:Below w.heap.size w w'):qU w' v xs:=by obtain⟨ba,cap,rfl,hle,hc⟩:=h;refine⟨ba,cap,rfl,hle,λj u hj=>?_⟩;obtain⟨b,off,e,hh⟩:=hc j u hj;exact⟨b,off,e,(hb.cell (p:=⟨b,off+j,none⟩) (rG hh)).trans hh⟩
def xe(l:List (ak)):aK:=l.map λs=>Value.string ⟨s.toArray⟩
def Gf(l:di):aK:=l.map λz=>Value.int .i64 z
theorem wL(l:List (ak)):(xe l).length=l.length:=by simp[xe]
theorem FU(l:di):(Gf l).length=l.length:=by simp[Gf]
theorem GV{l:List (ak)}{j:Nat}(h:j<l.length):(xe l)[j]?=some (.string ⟨(l.getD j []).toArray⟩):=by simp[xe,cO h]
theorem ZN{l:di}{j:Nat}(h:j<l.length):(Gf l)[j]?=some (.int .i64 (l.getD j 0)):=by simp[Gf,cO h]
theorem wJ{l:ak}{j:Nat}(h:j<l.length):(sJ l)[j]?=some (.int .u8 (tZ l j:Int)):=by obtain⟨u,hu⟩:∃u,(sJ l)[j]?=some u:=⟨_,cO (by simpa[sJ]using h)⟩;obtain⟨_,rfl⟩:=VV hu;exact hu
def Vg(a b:ak):Bool:=Op.bytesLess a b||a==b
structure Sh where
 K:Int
 N:Int
 I:Int
 C:Int
 ns:List (ak)
 zs:di
 qH:ak
def xk(ns:List (ak)):Prop:=∀i,i<ns.length->(1<=(ns.getD i []).length/\(ns.getD i []).length<=255)/\(0<i->Vg (ns.getD i []) (ns.getD (i-1) [])=false)
def O0(zs:di):Prop:=∀i,i<zs.length->0<=zs.getD i 0
def Jp(ns:List (ak)):Nat:=4+(ns.map λn=>6+n.length).sum
def Fv(zs:di):Nat:=(zs.map Int.toNat).sum
def ug(k t:Nat):Nat:=(t+k-1)/k
structure Sh.L8(s:Sh):Prop where
 k1:1<=s.K
 kn:s.K<=s.N
 n1:s.N<=128
 i0:0<=s.I
 iN:s.I<s.N
 c1:1<=s.C
 c2:s.C<=65536
structure Sh.Listed(s:Sh):Prop where
 len:s.ns.length=s.zs.length
 names:xk s.ns
 sizes:O0 s.zs
structure Sh.Few(s:Sh):Prop where
 ai_:s.ns.length<=1000
 bytes:Fv s.zs<=65536
 OD:Jp s.ns<=300000
def Sh.OC(s:Sh):Prop:=s.qH.length=ug s.K.toNat (Fv s.zs)
def Sh.Bad(s:Sh):Prop:=s.I<s.K/\∃m,m<s.qH.length/\Fv s.zs<=s.I.toNat*ug s.K.toNat (Fv s.zs)+m/\tZ s.qH m≠0
open Classical in
noncomputable def Sh.err(s:Sh):Nat:=
 if¬s.L8 then 1 else if¬s.Listed then 2 else if¬s.Few then 3 else if¬s.OC then 15 else if s.Bad then 8 else 0
def xq(ns:List (ak))(zs:di)(i:Nat):ak:=u_ 4 ns.length++(List.range i).flatMap λj=>u_ 2 (ns.getD j []).length++(ns.getD j []++u_ 4 (zs.getD j 0).toNat)
theorem Ve(ns:List (ak))(zs:di)(i:Nat):xq ns zs (i+1)=xq ns zs i++u_ 2 (ns.getD i []).length++ns.getD i []++u_ 4 (zs.getD i 0).toNat:=by simp[xq,dZ]
def rJ(l:ak):ak:=l++u_ 8 (sumOf l)
def yD(s:Sh):ak:=xq s.ns s.zs s.ns.length
def b8(x:Int):UInt8:=UInt8.ofNat (x.toNat%256)
def uo(s:Sh)(m:Nat):ak:=[67,65,73,82,78,49]++([b8 s.K,b8 s.N,b8 s.I,0]++(u_ 4 s.C.toNat++(u_ 4 m++(u_ 4 s.qH.length++[0,0]))))
def yt(c:Nat)(qH:ak)(k:Nat):ak:=rJ (part qH (k*c) (min c (qH.length-k*c)))
def su(c:Nat)(qH:ak)(i:Nat):ak:=(List.range i).flatMap (yt c qH)
theorem yg(c:Nat)(qH:ak)(i:Nat):su c qH (i+1)=su c qH i++yt c qH i:=by simp[su,dZ]
def Hu(c n:Nat):Nat:=(n+c-1)/c
def Jm(s:Sh):ak:=rJ (uo s (yD s).length)++rJ (yD s)++su s.C.toNat s.qH (Hu s.C.toNat s.qH.length)++[68,79,78,69]
theorem QF{c n k:Nat}(hc:1<=c):k<Hu c n↔k*c<n:=by unfold Hu;rw[Nat.lt_div_iff_mul_lt ag];omega
theorem tu(l:ak):(rJ l).length=l.length+8:=by simp[rJ,ru]
theorem Ib(ns:List (ak))(zs:di):∀i,(xq ns zs i).length=4+((List.range i).map λj=>6+(ns.getD j []).length).sum
 |0=>by simp[xq,ru]
 |i+1=>by rw[Ve];simp only[bK,ru,Ib ns zs i,dZ,jh,gU,jU,iU,jT,nN];omega
theorem Fe{α β:Type}(l:List α)(d:α)(f:α->β):(List.range l.length).map (λj=>f (l.getD j d))=l.map f:=by
 apply avZ
 .simp
 .intro i h1 h2;have:i<l.length:=iK;simp[cO this]
theorem CX(s:Sh):(yD s).length=Jp s.ns:=by unfold yD Jp;rw[Ib,Fe s.ns [] (λn=>6+n.length)]
def Dz(ns:List (ak))(i:Nat):Nat:=4+((List.range i).map λj=>6+(ns.getD j []).length).sum
theorem RY(ns:List (ak))(i:Nat):Dz ns (i+1)=Dz ns i+6+(ns.getD i []).length:=by simp only[Dz,dZ,jh,gU,jU,iU,jT,nN];omega
theorem NI(ns:List (ak)):Dz ns ns.length=Jp ns:=by unfold Dz Jp;rw[Fe ns [] (λn=>6+n.length)]
def zJ(zs:di)(i:Nat):Nat:=((List.range i).map λj=>(zs.getD j 0).toNat).sum
theorem Ia(zs:di)(i:Nat):zJ zs (i+1)=zJ zs i+(zs.getD i 0).toNat:=by simp[zJ,dZ]
theorem QG(zs:di):zJ zs zs.length=Fv zs:=by unfold zJ Fv;rw[Fe zs 0 Int.toNat]
theorem Wi(zs:di)(i:Nat):∀d,zJ zs i<=zJ zs (i+d)
 |0=>az _
 |d+1=>by have:=Wi zs i d;rw[<-dW,Ia];omega
theorem U9(zs:di){i:Nat}(h:i<=zs.length):zJ zs i<=Fv zs:=by rw[<-QG];have:=Wi zs i (zs.length-i);rwa[show i+(zs.length-i)=zs.length by omega]at this
theorem rQ.acB{w w':ah}{row:Option Nat}(h:w.grownBy w' row):rQ w.heap.size (λk=>row=some k) w w':=
 ⟨h.os,h.tape,h.output,h.size,λk hk hs=>h.block k hk (λe=>hs e.symm)⟩
theorem A7{w:ah}{base n:Nat}{v:ai}{l:ak}(h:w.ownsRow base 5 1 v n (sJ l))(hn:0<n):∃g c,v=.slice (some ⟨g,0,none⟩) l.length c/\n=l.length/\base<=g/\g<w.heap.size/\n<=c/\Dv w g 0 l:=by
 have hl:l.length=n:=ax6;rcases h.2 with⟨_,h0⟩|⟨g,c,cur,rfl,hg,hh,hc,_⟩
 .omega
 refine⟨g,c,by rw[hl],hl.symm,hg,(dh.1 hh).1,hc,λi hi=>?_⟩;have:=h.cellAt i ag;rw[bM,this];exact wJ hi
theorem ZT(l:ak):Lib.strCells ⟨l.toArray⟩=sJ l:=by simp[Lib.strCells,sJ]
end Go.Proofs.Y
namespace Go.Proofs.Y
open Go.RowKit
theorem amx(b off len cap:Nat)(xs:aA)(hl:xs.length=len)(hx:∀i,i<len->xs.getD i 0<256)(hm:len<=9223372036854775807)(w:ah)(hc:∀i,i<len->w.cell? ⟨b,off+i,none⟩=some (.int .u8 ((xs.getD i 0:Nat):Int)))
  (ht:∀i,i<16->w.cell? ⟨2,i,none⟩=some (.int .u64 ((Gg.getD i 0:Nat):Int))):
  Calls Tryz.prog 76 #[.slice (some ⟨b,off,none⟩) len cap] w λe w'=>e=.returned (.int .u64 (crc xs:Nat))/\w'=w:=by
 go_enter Tryz.func76,Tryz.ntmps76;go_wp2
 go_loop [3,5,8] (λvs vb vi=>∃k s:Nat,k<=len/\s<2^64/\vs=.int .u64 (s:Int)/\vi=.int .i64 (k:Int)/\Hid (Jb s (xs.drop k)=Jb zt xs)) (λ_ _ i=>len-(intOf i).toNat)
 case atStart=>exact⟨0,zt,ag,Lr,rfl,rfl,rfl⟩
 case round=>
  obtain⟨k,s,hk,hs,rfl,rfl,H⟩:=hrel;by_cases qK:k<len
  .have hcell:=hc k qK;have hb:=hx k qK;obtain⟨x,ex⟩:∃x,xs.getD k 0=x:=⟨_,rfl⟩;rw[ex]at hcell hb;have ey:=Ob hs (Nat.lt_trans hb aC);obtain⟨y,hy⟩:∃y,s^^^x=y:=⟨_,rfl⟩;have ly:y<2^64:=hy▸iQ hs (Nat.lt_trans hb aC);rw[hy]at ey;obtain⟨m1,t1,z1,hm1,Tn,lz1,xA,e1,e2⟩:=four ly;obtain⟨m2,t2,z2,hm2,ht2,lz2,wH,e3,e4⟩:=four lz1;have hc1:=ht m1 hm1;have Wq:=ht m2 hm2;rw[<-Tn]at hc1;rw[<-ht2]at Wq
   have G:Hid (Jb z2 (xs.drop (k+1))=Jb zt xs):=by
    have hz:z2=akY s x:=by rw[wH,xA,<-OY,<-hy];rfl
    rw[hz];exact ahI ag ex H.out
   clear ex hc hx ht Tn ht2 xA wH hy H;go_wp2
   go_round
   case rel=>exact⟨k+1,z2,ag,lz2,rfl,bU,G⟩
   case measure=>simp[intOf];omega
  .have e:k=xs.length:=ag
   have G:Hid (s=Jb zt xs):=by have:=H.out;rw[e,List.drop_length]at this;exact this
   clear H hc hx ht;go_wp2;go_ret;exact⟨afX (by rw[anF hs,crc,<-G.out]),rfl⟩
