import Derived.Test.YtnbflnamlpodcaaGreatDoorPrV
import Derived.Test.YtnbflnamlpodcaaGreatDoorErD
import Derived.Shelf.Bytes.SlJoin
set_option maxHeartbeats 2000000
set_option maxRecDepth 100000
namespace Go.Proofs.Y
open Go.Proofs.Tryz
open Go.RowKit Go.Deep
theorem akj(rb:Nat)(l:ak)(w:ah)(hD:alE w rb l):Calls prog 59 #[.pointer (some ⟨rb,0,none⟩)] w λq w'=>LJ 0 w l (λ_=>False) q w':=by
 have xB:=(aT w.heap.size w).alloc (az _) (.cells zM.toArray 55);have AL:ql (w.alloc (.cells zM.toArray 55)) w.heap.size zM 55:=ql.made w _ _
 have hD0:alE (w.alloc (.cells zM.toArray 55)) rb l:=by obtain⟨v,d,e,hd,hR,hC,h4,hE⟩:=hD;exact⟨v,d,e,hd,ql.later hR (S:=λ_=>False) (.qF xB) (ql.lt hR) id,hC.under xB,h4,hE⟩
 have K:=YE rb l (.slice none 0 0) _ hD0;unfold LJ;obtain⟨v,d,e,hd,hR,hC,h4,hE⟩:=hD0;have Ej:qY l=.error e:=by have:=hE [];rwa[d_]at this
 rw[Ej]
 have K2:Calls prog 57 #[.pointer (some ⟨rb,0,none⟩),.slice none 0 0] (w.alloc (.cells zM.toArray 55)) λq w'=>w'=w.alloc (.cells zM.toArray 55)/\∃v d,d<=2/\q=.returned v/\sV w' d v e.1 e.2:=by refine K.mono ?_;rintro q w' ⟨rfl,v',d',e',k1,k2,k3,k4,k5⟩;have:=k5 [];rw[d_,Ej]at this;cases this;exact⟨rfl,v',d',k1,k2,k3⟩
 clear K hD Ej hE hR hC hd;unfold zM zi at xB AL K2;go_enter func59,ntmps59
 go_upto_region 1 with(fail)
 generalize Nu:w.alloc _=w0 at xB AL K2⊢;clear Nu;have c0:=AL.cell (i:=0) rfl;have c1:=AL.cell (i:=1) rfl;have c2:=AL.cell (i:=2) rfl;have c3:=AL.cell (i:=3) rfl;have c4:=AL.cell (i:=4) rfl;have c5:=AL.cell (i:=5) rfl;have c6:=AL.cell (i:=6) rfl;have f0:=AL.frozen
 go_wp2_with(first|(go_at_call 57;with_reducible refine K2.mono ?_;rintro q w1 ⟨BB,v,d,hd,rfl,g2⟩;obtain rfl:=BB.symm;obtain⟨ty,x,rfl⟩:=g2.iface))
 obtain⟨hF,hG⟩:=ad4 (b0:=.int .i64 0) (b1:=.int .i64 0) (b2:=.int .i64 0) (b3:=.int .i64 0) (b4:=.slice none 0 0) (b5:=.slice none 0 0) (b6:=.slice none 0 0) AL;have hC:=g2.other AL aC aC hG;refine iD (E8 (p:=2) (u:=3) rfl _ _ w.heap.size 55 _ (0,0) _ aI hF underlying55 rfl aj) rfl ?_;exact⟨(rQ.qF xB).step hG (λk hk e=>ag),_,d,hd,rfl,hC⟩
def Bj(w:ah)(xb:Nat)(m r:aY):Prop:=ql w xb [.pointer m,.pointer r] 124
theorem ani:∃j,prog.info? 124=some j:=aw0.1 aj
theorem akk(a:Addr)(w:ah):(binOp .neq 80 (.pointer (some a)) (.pointer (some a))).run prog w=.ok (.bool false) w:=by obtain⟨j,hj⟩:=ani;exact Lib.run_neq_ptr_same w a underlying80 hj
theorem SH(xb rb:Nat)(w:ah)(h:Bj w xb (some ⟨xb,0,none⟩) (some ⟨rb,0,none⟩)):Calls prog 56 #[.pointer (some ⟨xb,0,none⟩)] w λq w'=>q=.returned (.bool false)/\w'=w:=by have c0:=ql.cell h (i:=0) rfl;have c1:=ql.cell h (i:=1) rfl;have e1:=akk ⟨xb,0,none⟩;go_enter func56,ntmps56;exact ayj
def St.zero:St:=⟨0,0,0,0,[],[],[],0,0,0,0,0⟩
theorem ahh:JZ St.zero [] []:=⟨λx=>.head rfl rfl rfl,⟨by simp[St.zero],λi hi=>by simp at hi⟩,⟨aC,aC,aC,aC,aC,aC⟩,⟨λ_=>rfl,(λh=>absurd h aC),(λh=>absurd h aC)⟩,λ_=>ax,λ_=>rfl⟩
theorem MW(w:ah):Calls prog 32 #[] w λq w'=>∃xb rb,q=.returned (.pointer (some ⟨xb,0,none⟩))/\Bj w' xb (some ⟨xb,0,none⟩) (some ⟨rb,0,none⟩)/\Live w.heap.size w' rb [] (.slice none 0 0) (.slice none 0 0)/\w.heap.size<=rb/\w.heap.size<=xb/\Below w.heap.size w w':=by
 go_enter func32,ntmps32;go_wp2;go_ret;have uu:=(aT w.heap.size w).alloc (az _) (.cells (St.zero.rd (.slice none 0 0) (.slice none 0 0) (.slice none 0 0) (.slice none 0 0) .nilIface).cells.toArray 122);have Tt:yw (w.alloc (.cells (St.zero.rd (.slice none 0 0) (.slice none 0 0) (.slice none 0 0) (.slice none 0 0) .nilIface).cells.toArray 122)) w.heap.size (St.zero.rd (.slice none 0 0) (.slice none 0 0) (.slice none 0 0) (.slice none 0 0) .nilIface):=ql.made w _ _;have yE:(w.alloc (.cells (St.zero.rd (.slice none 0 0) (.slice none 0 0) (.slice none 0 0) (.slice none 0 0) .nilIface).cells.toArray 122)).heap.size=w.heap.size+1:=ax
 have key:∀w1:ah,Below w.heap.size w w1->yw w1 w.heap.size (St.zero.rd (.slice none 0 0) (.slice none 0 0) (.slice none 0 0) (.slice none 0 0) .nilIface)->w1.heap.size=w.heap.size+1->
   Bj (w1.alloc (.cells #[.pointer (some ⟨w.heap.size+1,0,none⟩),.pointer (some ⟨w.heap.size,0,none⟩)] 124)) (w.heap.size+1) (some ⟨w.heap.size+1,0,none⟩) (some ⟨w.heap.size,0,none⟩)/\Live w.heap.size (w1.alloc (.cells #[.pointer (some ⟨w.heap.size+1,0,none⟩),.pointer (some ⟨w.heap.size,0,none⟩)] 124)) w.heap.size [] (.slice none 0 0) (.slice none 0 0)/\Below w.heap.size w (w1.alloc (.cells #[.pointer (some ⟨w.heap.size+1,0,none⟩),.pointer (some ⟨w.heap.size,0,none⟩)] 124)):=by
  intro w1 h1 h2 h3;have tX:=(aT w1.heap.size w1).alloc (az _) (.cells #[.pointer (some ⟨w.heap.size+1,0,none⟩),.pointer (some ⟨w.heap.size,0,none⟩)] 124);have hX:=ql.made w1 [.pointer (some ⟨w.heap.size+1,0,none⟩),.pointer (some ⟨w.heap.size,0,none⟩)] 124;rw[h3]at hX;refine⟨hX,⟨St.zero,[],.slice none 0 0,.slice none 0 0,⟨ql.later h2 (S:=λ_=>False) (.qF tX) (ql.lt h2) id,dK _ _ _ _,dK _ _ _ _,dK _ _ _ _,dK _ _ _ _,(λg hg=>avI),?_⟩,ahh,rfl⟩,h1.trans (tX.mono h1.size)⟩;have:=tX.size;omega
 obtain⟨k1,k2,k3⟩:=key _ uu Tt yE;exact⟨w.heap.size+1,w.heap.size,rfl,k1,k2,az _,ag,k3⟩
inductive RSt (B:Nat) (w:ah) (rb:Nat) (l:ak) (M:Nat->Prop):Prop
 |live (vC vT:ai) (h:Live B w rb l vC vT) (hM:∀k,qZ rb vC vT k->M k)
 |dead (h:alE w rb l) (hM:M rb)
theorem RSt.below{B:Nat}{w w':ah}{rb:Nat}{l:ak}{M:Nat->Prop}(h:RSt B w rb l M)(hb:Below w.heap.size w w'):RSt B w' rb l M:=by
 cases h with
 |live vC vT h hm=>exact .live vC vT (h.below hb) hm
 |dead h hm=>
  obtain⟨v,d,e,hd,hR,hC,h4,hE⟩:=h;exact .dead ⟨v,d,e,hd,ql.later hR (S:=λ_=>False) (.qF hb) (ql.lt hR) id,hC.under hb,h4,hE⟩ hm
theorem Pt.less{w:ah}{M M':Nat->Prop}{v:ai}{p:ak}(h:Pt w M v p)(hM:∀k,M' k->M k):Pt w M' v p:=by
 rcases h with h|⟨ad,c,e,h1,h2,h3⟩
 .exact .inl h
 .exact .inr ⟨ad,c,e,h1,λx y=>h2 x (hM _ y),h3⟩
def an6(B:Nat)(w:ah)(rb:Nat)(M:Nat->Prop)(L:ak)(q:Ending)(w':ah):Prop:=
 rQ w.heap.size M w w'/\(∃M',RSt B w' rb L M'/\∀k,M' k->k<w'.heap.size/\(k<w.heap.size->M k))/\match qY L with
 | .error e=>∃v d,d<=2/\q=.returned v/\sV w' d v e.1 e.2
 | .ok _=>q=.returned .nilIface
section
variable (B rb:Nat)(l p:ak)(M:Nat->Prop)(vp:ai)(w:ah)(hR:RSt B w rb l M)(hP:Pt w M vp p)(hlen:l.length+p.length<=4611686018427387904)(uY:Du w)(hPow:Pow w)(Jd:5<=B)(TR:B<=rb)(a:Addr)(hE:xh w a)
include hR hP hlen uY hPow Jd TR hE in
theorem alF:Calls prog 57 #[.pointer (some ⟨rb,0,none⟩),vp] w λq w'=>an6 B w rb M (l++p) q w':=by
 cases hR with
 |live vC vT h hm=>
  have Za:rb<w.heap.size:=h.lt.2 _ (.inl rfl);refine(YF B rb l p vC vT vp w h (hP.less hm) hlen uY hPow Jd TR a hE).mono ?_;rintro q w' ⟨h1,h2⟩;refine⟨h1.mono (az _) hm,?_⟩;have sub:∀{Gx DW:ai},Live B w' rb (l++p) Gx DW->(∀k,k<w.heap.size->qZ rb Gx DW k->qZ rb vC vT k)->∀k,qZ rb Gx DW k->k<w'.heap.size/\(k<w.heap.size->M k):=λhl hs k hk=>⟨hl.lt.2 k hk,λq=>hm k (hs k q hk)⟩
  rcases h2 with⟨v,d,e,k1,k2,k3,k4,k5,k6⟩|⟨k0,s,vN,vS,Gx,DW,m1,m2,m3,m4,m5,m6⟩
  .rw[k4];refine⟨?_,v,d,k1,k2,k3⟩;by_cases q4:e.1=4
   .obtain⟨Gx,DW,n1,n2⟩:=k6 q4;exact⟨_,.live Gx DW n1 (λ_ h=>h),sub n1 n2⟩
   .exact⟨(· =rb),.dead (k5 q4) rfl,λk hk=>by subst hk;exact⟨bG Za h1.size,λ_=>hm _ (.inl rfl)⟩⟩
  .rw[m5];have hlv:Live B w' rb (l++p) Gx DW:=⟨s,[],vN,vS,m1,m2,m4⟩;exact⟨⟨_,.live Gx DW hlv (λ_ h=>h),sub hlv m6⟩,k0⟩
 |dead h hm=>
  refine(YE rb l vp w h).mono ?_;rintro q w' ⟨rfl,v,d,e,k1,k2,k3,k4,k5⟩;refine⟨rQ.refl _ _ _,?_,?_⟩
  .obtain⟨v',d',e',j1,j2,j3,j4,j5⟩:=h;exact⟨(· =rb),.dead ⟨v',d',e',j1,j2,j3,j4,λx=>by rw[fK];exact j5 (p++x)⟩ rfl,λk hk=>by subst hk;exact⟨ql.lt j2,λ_=>hm⟩⟩
  .rw[k5 p];exact⟨v,d,k1,k2,k3⟩
end
theorem anj(B rb:Nat)(l:ak)(M:Nat->Prop)(w:ah)(hR:RSt B w rb l M)(hlen:l.length<=4611686018427387904)(uY:Du w)(hPow:Pow w)(Jd:5<=B)(TR:B<=rb)(a:Addr)(hE:xh w a):
  Calls prog 59 #[.pointer (some ⟨rb,0,none⟩)] w λq w'=>LJ B w l M q w':=by
 cases hR with
 |live vC vT h hm=>
  refine(akl B rb l vC vT w hlen uY hPow Jd TR a hE h).mono ?_;rintro q w' ⟨h1,h2⟩;exact⟨h1.mono (az _) hm,h2⟩
 |dead h hm=>
  refine(akj rb l w h).mono ?_;rintro q w' ⟨h1,h2⟩;refine⟨h1.mono (az _) (λ_ x=>x.elim),?_⟩;obtain⟨v,d,e,hd,hR',hC,h4,hE'⟩:=h;have Ej:qY l=.error e:=by have:=hE' [];rwa[d_]at this
  rw[Ej]at h2⊢;exact h2
def akm(L:ak):Nat×Nat:=match qY L with
 | .error e=>if e.1=4 then(0,0)else e
 | .ok _=>(0,0)
def Pq(B:Nat)(w:ah)(xb rb:Nat)(M:Nat->Prop)(L:ak)(q:Ending)(w':ah):Prop:=
 q=.returned (.tuple #[.int .i64 ((akm L).1:Int),.int .i64 ((akm L).2:Int)])/\rQ w.heap.size M w w'/\(∃M',RSt B w' rb L M'/\∀k,M' k->k<w'.heap.size/\(k<w.heap.size->M k))/\Bj w' xb (some ⟨xb,0,none⟩) (some ⟨rb,0,none⟩)
section
variable (B xb rb:Nat)(l p:ak)(M:Nat->Prop)(vp:ai)(w:ah)(hX:Bj w xb (some ⟨xb,0,none⟩) (some ⟨rb,0,none⟩))(hxM:¬M xb)(hR:RSt B w rb l M)(hP:Pt w M vp p)(hlen:l.length+p.length<=4611686018427387904)(uY:Du w)(hPow:Pow w)(Jd:5<=B)(TR:B<=rb)(TT:∀k,M k->5<=k)(a:Addr)(hE:xh w a)(hT:Dw w)
include hX hxM hR hP hlen uY hPow Jd TR TT hE hT in
theorem ab4:Calls prog 33 #[.pointer (some ⟨xb,0,none⟩),vp] w λq w'=>Pq B w xb rb M (l++p) q w':=by
 have KC:=SH xb rb w hX;have KT:=alF B rb l p M vp w hR hP hlen uY hPow Jd TR a hE;have c1:=ql.cell hX (i:=1) rfl;have hxl:=ql.lt hX;have ahQ:1<w.heap.size:=rG hT;have hEb:∀w',rQ w.heap.size M w w'->xh w' a:=λw' h=>hE.but h ag (λx=>by have:=TT 0 x;omega)
 have hTb:∀w',rQ w.heap.size M w w'->Dw w':=λw' h=>(h.cell (p:=⟨1,0,none⟩) ahQ (λx=>awY)).trans hT
 have hXb:∀w',rQ w.heap.size M w w'->Bj w' xb (some ⟨xb,0,none⟩) (some ⟨rb,0,none⟩):=λw' h=>ql.later hX h hxl hxM
 unfold an6 at KT;unfold Pq akm;cases Ej:qY (l++p)with
 |error e=>
  rw[Ej]at KT;simp only at KT⊢;by_cases q4:e.1=4
  .simp only[ay q4];clear hR hP uY hPow hX;go_enter func33,ntmps33
   go_wp2_with(first|(go_at_call 56;(with_reducible refine KC.mono ?_);rintro q w1 ⟨rfl,BB⟩;obtain rfl:=BB.symm)|(go_at_call 57;(with_reducible refine KT.mono ?_);rintro q w2 ⟨g1,g2,v,d,hd,rfl,g3⟩;have hE2:=hEb _ g1;have ce:w2.cell? ⟨0,0,none⟩=_:=hE2;have KI:=Pv d hd v a e.1 e.2 w2 g3 hE2;rw[ja q4]at KI;obtain⟨ty,x,rfl⟩:=g3.iface)|(go_at_call 58;(with_reducible refine KI.mono ?_);rintro q w3 ⟨rfl,Qo⟩;obtain rfl:=Qo.symm))
   go_ret2;exact⟨rfl,g1,g2,hXb _ g1⟩
  .simp only[au q4];clear hR hP uY hPow hX;go_enter func33,ntmps33
   go_wp2_with(first|(go_at_call 56;(with_reducible refine KC.mono ?_);rintro q w1 ⟨rfl,BB⟩;obtain rfl:=BB.symm)|(go_at_call 57;(with_reducible refine KT.mono ?_);rintro q w2 ⟨g1,g2,v,d,hd,rfl,g3⟩;have hE2:=hEb _ g1;have ce:w2.cell? ⟨0,0,none⟩=_:=hE2;have KI:=Pv d hd v a e.1 e.2 w2 g3 hE2;rw[fD q4]at KI;have KA:=Ht d hd v e.1 e.2 w2 g3 (hTb _ g1);obtain⟨ty,x,rfl⟩:=g3.iface)|(go_at_call 58;(with_reducible refine KI.mono ?_);rintro q w3 ⟨rfl,Qo⟩;obtain rfl:=Qo.symm)|(go_at_call 20;(with_reducible refine KA.mono ?_);rintro q w4 ⟨rfl,g4⟩))
   go_ret2;exact⟨rfl,wZ g1 g4,(by obtain⟨M',z1,z2⟩:=g2;exact⟨M',z1.below g4,λk hk=>⟨bG (z2 k hk).1 g4.size,(z2 k hk).2⟩⟩),ql.later (hXb _ g1) (S:=λ_=>False) (.qF g4) (ql.lt (hXb _ g1)) id⟩
 |ok sh=>
  rw[Ej]at KT;simp only at KT⊢;clear hR hP uY hPow hX;go_enter func33,ntmps33
  go_wp2_with(first|(go_at_call 56;(with_reducible refine KC.mono ?_);rintro q w1 ⟨rfl,BB⟩;obtain rfl:=BB.symm)|(go_at_call 57;(with_reducible refine KT.mono ?_);rintro q w2 ⟨g1,g2,rfl⟩;have hE2:=hEb _ g1;have ce:w2.cell? ⟨0,0,none⟩=_:=hE2;have KI:=apS a w2;have KA:=Ny w2)|(go_at_call 58;(with_reducible refine KI.mono ?_);rintro q w3 ⟨rfl,Qo⟩;obtain rfl:=Qo.symm)|(go_at_call 20;(with_reducible refine KA.mono ?_);rintro q w4 ⟨rfl,g4⟩))
  go_ret2;exact⟨rfl,wZ g1 g4,(by obtain⟨M',z1,z2⟩:=g2;exact⟨M',z1.below g4,λk hk=>⟨bG (z2 k hk).1 g4.size,(z2 k hk).2⟩⟩),ql.later (hXb _ g1) (S:=λ_=>False) (.qF g4) (ql.lt (hXb _ g1)) id⟩
end
def Uu(B:Nat)(w:ah)(xb:Nat)(M:Nat->Prop)(l:ak)(q:Ending)(w':ah):Prop:=
 rQ w.heap.size (λk=>M k\/k=xb) w w'/\Bj w' xb (some ⟨xb,0,none⟩) none/\match qY l with
 | .error e=>q=.returned (.tuple #[Ep,.int .i64 (e.1:Int),.int .i64 (e.2:Int)])
 | .ok s=>∃vN vS vC,q=.returned (.tuple #[.agg (zi s.k s.n s.i s.c vN vS vC).toArray,.int .i64 0,.int .i64 0])/\
   w'.ownsRow B 9 1 vN s.names.length (DT s.names)/\w'.ownsRow B 3 1 vS s.sizes.length (zV s.sizes)/\w'.ownsRow B 5 1 vC s.qH.length (sJ s.qH)
section
variable (B xb rb:Nat)(l:ak)(M:Nat->Prop)(w:ah)(hX:Bj w xb (some ⟨xb,0,none⟩) (some ⟨rb,0,none⟩))(hxM:¬M xb)(aup:5<=xb)(hR:RSt B w rb l M)(hlen:l.length<=4611686018427387904)(uY:Du w)(hPow:Pow w)(Jd:5<=B)(TR:B<=rb)(TT:∀k,M k->5<=k)(hMl:∀k,M k->k<w.heap.size)(a:Addr)(hE:xh w a)(hT:Dw w)
include hX hxM aup hR hlen uY hPow Jd TR TT hMl hE hT in
theorem VD:Calls prog 34 #[.pointer (some ⟨xb,0,none⟩)] w λq w'=>Uu B w xb M l q w':=by
 have xB:=(aT w.heap.size w).alloc (az _) (.cells zM.toArray 55);have AL:ql (w.alloc (.cells zM.toArray 55)) w.heap.size zM 55:=ql.made w _ _;have hxl:=ql.lt hX;have auq:1<w.heap.size:=rG hT
 have h16:5<=w.heap.size:=by
  cases hR with
  |live vC vT h hm=>have:=h.lt.1;omega
  |dead h hm=>have:=TT _ hm;have:=hMl _ hm;omega
 have hX0:Bj (w.alloc (.cells zM.toArray 55)) xb (some ⟨xb,0,none⟩) (some ⟨rb,0,none⟩):=ql.later hX (S:=λ_=>False) (.qF xB) hxl id;have KE:=anj B rb l M _ (hR.below xB) hlen (uY.below xB ag) (hPow.belows xB h16) Jd TR a (hE.belows xB);have KC:=SH xb rb _ hX0;have XX:Dw (w.alloc (.cells zM.toArray 55)):=hT.below xB auq;have hnb:¬M w.heap.size:=λh=>by have:=hMl _ h;omega
 unfold zM zi at xB AL KE KC hX0 XX;unfold LJ at KE;unfold Uu;clear hR uY hPow hX hT hE;cases Ej:qY l with
 |error e=>
  rw[Ej]at KE;simp only at KE⊢;go_enter func34,ntmps34
  go_upto_region 1 with(fail)
  generalize Nu:w.alloc _=w0 at xB AL KE KC hX0 XX⊢;clear Nu;have XW:w.heap.size<w0.heap.size:=AL.lt;have c1:=ql.cell hX0 (i:=1) rfl
  go_upto_region 4 with(first|(go_at_call 56;(with_reducible refine KC.mono ?_);rintro q w1 ⟨rfl,BB⟩;obtain rfl:=BB.symm)|(go_at_call 59;(with_reducible refine KE.mono ?_);rintro q w2 ⟨g1,v,d,hd,rfl,g2⟩;unfold Ep zi;obtain⟨ty,x,rfl⟩:=g2.iface))
  have wI:=(aT w2.heap.size w2).alloc (az _) (.cells ([.int .i64 0,.int .i64 0,.int .i64 0,.int .i64 0,.slice none 0 0,.slice none 0 0,.slice none 0 0]:aK).toArray 55);have xI:ql (w2.alloc (.cells ([.int .i64 0,.int .i64 0,.int .i64 0,.int .i64 0,.slice none 0 0,.slice none 0 0,.slice none 0 0]:aK).toArray 55)) w2.heap.size [.int .i64 0,.int .i64 0,.int .i64 0,.int .i64 0,.slice none 0 0,.slice none 0 0,.slice none 0 0] 55:=ql.made w2 _ _;generalize Qo:w2.alloc _=w3 at wI xI⊢;clear Qo;have Ug:=AL.later g1 XW hnb;have Oy:=Ug.later (S:=λ_=>False) (.qF wI) Ug.lt id;have Np:Bj w2 xb _ _:=ql.later hX0 g1 (ql.lt hX0) hxM;have hX3:Bj w3 xb _ _:=ql.later Np (S:=λ_=>False) (.qF wI) (ql.lt Np) id;have WV:Dw w2:=(g1.cell (p:=⟨1,0,none⟩) avq (λx=>awY)).trans XX;have hT3:Dw w3:=WV.below wI avC;have hC3:=g2.under wI;have Ov:rQ w.heap.size M w w3:=wZ ((rQ.qF xB).step g1 (λ_ _ x=>x)) wI;have d1:=ql.cell hX3 (i:=1) rfl;have f1:=ql.frozen hX3 1
  go_upto_region 5 with(fail)
  have hX4:Bj (w3.setCell ⟨xb,1,none⟩ (.pointer none)) xb (some ⟨xb,0,none⟩) none:=ql.set hX3 1 (.pointer none);have IM:rQ w3.heap.size (· =xb) w3 (w3.setCell ⟨xb,1,none⟩ (.pointer none)):=(rQ.refl w3.heap.size (· =xb) w3).setCell (p:=⟨xb,1,none⟩) (.inr rfl) (.pointer none);clear d1 f1 c1;generalize w3.setCell ⟨xb,1,none⟩ (.pointer none)=w4 at hX4 IM⊢;have hx4:=Oy.later IM Oy.lt ag;have hs4:=xI.later IM xI.lt avC;have hT4:Dw w4:=(IM.cell (p:=⟨1,0,none⟩) ax_ (by show¬1=xb;omega)).trans hT3;have KA:=Ht d hd _ e.1 e.2 w4 (hC3.other hX3 aC aC IM) hT4
  go_upto_region 6 with(first|(go_at_call 20;(with_reducible refine KA.mono ?_);rintro q w5 ⟨rfl,g5⟩))
  have Zf:=hx4.later (S:=λ_=>False) (.qF g5) hx4.lt id;have DY:=hs4.later (S:=λ_=>False) (.qF g5) hs4.lt id;have hX5:Bj w5 xb _ _:=ql.later hX4 (S:=λ_=>False) (.qF g5) (ql.lt hX4) id;have hB5:rQ w.heap.size (λk=>M k\/k=xb) w w5:=wZ ((Ov.mono (az _) (λ_ x=>.inl x)).step IM (λ_ _ x=>.inr x)) g5;have c0:=Zf.cell (i:=0) rfl;have c1:=Zf.cell (i:=1) rfl;have c2:=Zf.cell (i:=2) rfl;have c3:=Zf.cell (i:=3) rfl;have c4:=Zf.cell (i:=4) rfl;have c5:=Zf.cell (i:=5) rfl;have c6:=Zf.cell (i:=6) rfl;have f0:=Zf.frozen;have d0:=DY.cell (i:=0) rfl;have d1:=DY.cell (i:=1) rfl;have d2:=DY.cell (i:=2) rfl;have d3:=DY.cell (i:=3) rfl;have d4:=DY.cell (i:=4) rfl;have d5:=DY.cell (i:=5) rfl;have d6:=DY.cell (i:=6) rfl;go_wp2;obtain⟨hF,hG⟩:=ad4 (b0:=.int .i64 0) (b1:=.int .i64 0) (b2:=.int .i64 0) (b3:=.int .i64 0) (b4:=.slice none 0 0) (b5:=.slice none 0 0) (b6:=.slice none 0 0) Zf;have hX6:Bj _ xb (some ⟨xb,0,none⟩) none:=ql.later hX5 hG (ql.lt hX5) ag;refine iD (Bi (p:=2) (u:=3) (t:=4) rfl _ _ w.heap.size 55 _ (0,0) _ aI hF underlying55 rfl aj) rfl ?_;exact⟨hB5.step hG (λk hk e=>ag),hX6,rfl⟩
 |ok sh=>
  rw[Ej]at KE;simp only at KE⊢;go_enter func34,ntmps34
  go_upto_region 1 with(fail)
  generalize Nu:w.alloc _=w0 at xB AL KE KC hX0 XX⊢;clear Nu;have XW:w.heap.size<w0.heap.size:=AL.lt;have c1:=ql.cell hX0 (i:=1) rfl
  go_upto_region 4 with(first|(go_at_call 56;(with_reducible refine KC.mono ?_);rintro q w1 ⟨rfl,BB⟩;obtain rfl:=BB.symm)|(go_at_call 59;(with_reducible refine KE.mono ?_);rintro q w2 ⟨g1,vN,vS,vC,rfl,n1,n2,n3⟩;unfold zi;obtain⟨bn,cn,rfl⟩:=uF n1;obtain⟨bz,cz,rfl⟩:=uF n2;obtain⟨bc,cc,rfl⟩:=uF n3))
  have wI:=(aT w2.heap.size w2).alloc (az _) (.cells ([.int .i64 (sh.k:Int),.int .i64 (sh.n:Int),.int .i64 (sh.i:Int),.int .i64 (sh.c:Int),.slice bn sh.names.length cn,.slice bz sh.sizes.length cz,.slice bc sh.qH.length cc]:aK).toArray 55);have xI:ql (w2.alloc (.cells ([.int .i64 (sh.k:Int),.int .i64 (sh.n:Int),.int .i64 (sh.i:Int),.int .i64 (sh.c:Int),.slice bn sh.names.length cn,.slice bz sh.sizes.length cz,.slice bc sh.qH.length cc]:aK).toArray 55)) w2.heap.size [.int .i64 (sh.k:Int),.int .i64 (sh.n:Int),.int .i64 (sh.i:Int),.int .i64 (sh.c:Int),.slice bn sh.names.length cn,.slice bz sh.sizes.length cz,.slice bc sh.qH.length cc] 55:=ql.made w2 _ _;generalize Qo:w2.alloc _=w3 at wI xI⊢;clear Qo;have Ug:=AL.later g1 XW hnb;have Oy:=Ug.later (S:=λ_=>False) (.qF wI) Ug.lt id;have Np:Bj w2 xb _ _:=ql.later hX0 g1 (ql.lt hX0) hxM;have hX3:Bj w3 xb _ _:=ql.later Np (S:=λ_=>False) (.qF wI) (ql.lt Np) id;have WV:Dw w2:=(g1.cell (p:=⟨1,0,none⟩) avq (λx=>awY)).trans XX;have hT3:Dw w3:=WV.below wI avC;have o1:=λ{e n:Nat}{v:ai}{xs:aK}(h:w2.ownsRow B e 1 v n xs)=>vU (w':=w3) h (λg hg=>wI.block g (h.lt g hg).2);have Ov:rQ w.heap.size M w w3:=wZ ((rQ.qF xB).step g1 (λ_ _ x=>x)) wI;have d1:=ql.cell hX3 (i:=1) rfl;have f1:=ql.frozen hX3 1
  go_upto_region 5 with(fail)
  have hX4:Bj (w3.setCell ⟨xb,1,none⟩ (.pointer none)) xb (some ⟨xb,0,none⟩) none:=ql.set hX3 1 (.pointer none);have IM:rQ w3.heap.size (· =xb) w3 (w3.setCell ⟨xb,1,none⟩ (.pointer none)):=(rQ.refl w3.heap.size (· =xb) w3).setCell (p:=⟨xb,1,none⟩) (.inr rfl) (.pointer none);clear d1 f1 c1;generalize w3.setCell ⟨xb,1,none⟩ (.pointer none)=w4 at hX4 IM⊢;have hx4:=Oy.later IM Oy.lt ag;have hs4:=xI.later IM xI.lt avC;have hT4:Dw w4:=(IM.cell (p:=⟨1,0,none⟩) ax_ (by show¬1=xb;omega)).trans hT3;have KA:=Ny w4
  go_upto_region 6 with(first|(go_at_call 20;(with_reducible refine KA.mono ?_);rintro q w5 ⟨rfl,g5⟩))
  have Zf:=hx4.later (S:=λ_=>False) (.qF g5) hx4.lt id;have DY:=hs4.later (S:=λ_=>False) (.qF g5) hs4.lt id;have hX5:Bj w5 xb _ _:=ql.later hX4 (S:=λ_=>False) (.qF g5) (ql.lt hX4) id;have hB5:rQ w.heap.size (λk=>M k\/k=xb) w w5:=wZ ((Ov.mono (az _) (λ_ x=>.inl x)).step IM (λ_ _ x=>.inr x)) g5;have c0:=Zf.cell (i:=0) rfl;have c1:=Zf.cell (i:=1) rfl;have c2:=Zf.cell (i:=2) rfl;have c3:=Zf.cell (i:=3) rfl;have c4:=Zf.cell (i:=4) rfl;have c5:=Zf.cell (i:=5) rfl;have c6:=Zf.cell (i:=6) rfl;have f0:=Zf.frozen;have d0:=DY.cell (i:=0) rfl;have d1:=DY.cell (i:=1) rfl;have d2:=DY.cell (i:=2) rfl;have d3:=DY.cell (i:=3) rfl;have d4:=DY.cell (i:=4) rfl;have d5:=DY.cell (i:=5) rfl;have d6:=DY.cell (i:=6) rfl;go_wp2;obtain⟨hF,hG⟩:=ad4 (b0:=.int .i64 (sh.k:Int)) (b1:=.int .i64 (sh.n:Int)) (b2:=.int .i64 (sh.i:Int)) (b3:=.int .i64 (sh.c:Int)) (b4:=.slice bn sh.names.length cn) (b5:=.slice bz sh.sizes.length cz) (b6:=.slice bc sh.qH.length cc) Zf;have hX6:Bj _ xb (some ⟨xb,0,none⟩) none:=ql.later hX5 hG (ql.lt hX5) ag;refine iD (Bi (p:=2) (u:=3) (t:=4) rfl _ _ w.heap.size 55 _ (0,0) _ aI hF underlying55 rfl aj) rfl ?_
  have o2:∀{e n:Nat}{v:ai}{xs:aK},w2.ownsRow B e 1 v n xs->e≠124->e≠55->World.ownsRow _ B e 1 v n xs:=λh h1 h2=>yP Zf hG (by
   have z1:=yP hX3 IM (o1 h) h1;exact vU z1 (λg hg=>g5.block g (z1.lt g hg).2)) h2
  exact⟨hB5.step hG (λk hk e=>ag),hX6,_,_,_,rfl,o2 n1 aC aC,o2 n2 aC aC,o2 n3 aC aC⟩
end
section
variable (p:ak)(vp:ai)(w:ah)(hP:Pt w (λ_=>False) vp p)(hlen:p.length<=4611686018427387904)(uY:Du w)(hPow:Pow w)(h16:5<=w.heap.size)(a:Addr)(hE:xh w a)(hT:Dw w)
include hP hlen uY hPow h16 hE hT in
theorem ac8:Calls prog 18 #[vp] w λq w'=>Qq p w q w':=by
 have xB:=(aT w.heap.size w).alloc (az _) (.cells zM.toArray 55);have AL:ql (w.alloc (.cells zM.toArray 55)) w.heap.size zM 55:=ql.made w _ _;unfold zM zi at xB AL;unfold Qq;cases Ej:qY p with
 |error e=>
  simp only;go_enter func18,ntmps18
  go_upto_region 1 with(fail)
  generalize Nu:w.alloc _=w0 at xB AL⊢;clear Nu;have XX:=uY.below xB ag;have hP0:=hPow.belows xB h16;have hE0:=hE.belows xB;have hR0:Dw w0:=hT.below xB ag;have akn:Pt w0 (λ_=>False) vp p:=hP.later (S:=λ_=>False) (.qF xB) (λ_ x=>x) (λ_ _ x=>x);have KN:=MW w0;have Ou:w.heap.size<w0.heap.size:=AL.lt
  go_upto_region 2 with(first|(go_at_call 32;(with_reducible refine KN.mono ?_);rintro q w1 ⟨xb,rb,rfl,n1,n2,n3,n4,n5⟩))
  have Gy:=AL.later (S:=λ_=>False) (.qF n5) AL.lt id;have hn5:=n5.size
  have ako:Pt w1 (qZ rb (.slice none 0 0) (.slice none 0 0)) vp p:=akn.later (S:=λ_=>False) (.qF n5) (λ_ x=>x) (λk hk x=>by
   rcases x with h|h|h
   .omega
   .cases h
   .cases h)
  have hMr:∀k,qZ rb (.slice none 0 0) (.slice none 0 0) k->k=rb:=λk x=>by
   rcases x with h|h|h
   .exact h
   .cases h
   .cases h
  have hxr:xb≠rb:=by exact azx
  have alo:=n2.lt;have KF:=ab4 w0.heap.size xb rb [] p (qZ rb (.slice none 0 0) (.slice none 0 0)) vp w1 n1 (λh=>hxr (hMr _ h)) (.live _ _ n2 (λ_ h=>h)) ako awd (XX.below n5 ag) (hP0.belows n5 ag) ag n3 (λk h=>nC) a (hE0.belows n5) (hR0.below n5 ag);rw[dA]at KF;unfold Pq at KF
  go_upto_region 3 with(first|(go_at_call 33;(with_reducible refine KF.mono ?_);rintro q w2 ⟨rfl,g1,⟨M',g2,g3⟩,g4⟩))
  have TT:∀k,M' k->5<=k:=λk h=>by
   rcases bJ k w1.heap.size with q|q
   .have:=hMr k ((g3 k h).2 q);omega
   .omega
  have apT:=ql.lt n1;have hxM:¬M' xb:=λh=>hxr (hMr _ ((g3 xb h).2 apT))
  have hbM:¬M' w.heap.size:=λh=>ax3
  have Ug:=Gy.later g1 Gy.lt (λh=>by have:=hMr _ h;omega);have hnM:∀k,k<5->¬qZ rb (.slice none 0 0) (.slice none 0 0) k:=λk hk h=>nC
  have KI:=VD w0.heap.size xb rb p M' w2 g4 hxM ag g2 hlen ((XX.below n5 ag).but g1 ag (hnM 2 ag)) ((hP0.belows n5 ag).but g1 (λk hk=>⟨ag,hnM k hk⟩)) ag n3 TT (λk h=>(g3 k h).1) a ((hE0.belows n5).but g1 ag (hnM 0 ag)) ((g1.cell (p:=⟨1,0,none⟩) avq (hnM 1 ag)).trans (hR0.below n5 ag));unfold Uu at KI;rw[Ej]at KI;simp only at KI;have Ap:rQ w.heap.size (λ_=>False) w w2:=(((rQ.qF (xB.trans (n5.mono ag))):rQ w.heap.size (λ_=>False) w w1)).step g1 (λk hk h=>nC);have hxw:¬w.heap.size=xb:=ag;clear KF KN XX hP0 hE0 hR0 akn ako n2
  go_wp2_with(first|(go_at_call 34;(with_reducible refine KI.mono ?_);rintro q w3 ⟨k1,k2,rfl⟩;unfold Ep zi;have Oy:=Ug.later k1 Ug.lt (λx=>x.elim hbM hxw);have c0:=Oy.cell (i:=0) rfl;have c1:=Oy.cell (i:=1) rfl;have c2:=Oy.cell (i:=2) rfl;have c3:=Oy.cell (i:=3) rfl;have c4:=Oy.cell (i:=4) rfl;have c5:=Oy.cell (i:=5) rfl;have c6:=Oy.cell (i:=6) rfl;have f0:=Oy.frozen))
  obtain⟨hF,hG⟩:=ad4 (b0:=.int .i64 0) (b1:=.int .i64 0) (b2:=.int .i64 0) (b3:=.int .i64 0) (b4:=.slice none 0 0) (b5:=.slice none 0 0) (b6:=.slice none 0 0) Oy
  have Ov:rQ w.heap.size (λ_=>False) w w3:=Ap.step k1 (λk hk h=>by
   rcases h with h|h
   .have:=hMr k ((g3 k h).2 ag);omega
   .omega)
  have hBB:=(Ov.step hG (λk hk e=>ag)).below (λ_ _=>id);refine iD (Bi (p:=2) (u:=3) (t:=4) rfl _ _ w.heap.size 55 _ (0,0) _ aI hF underlying55 rfl aj) rfl ?_;exact⟨hBB,rfl⟩
 |ok sh=>
  simp only;go_enter func18,ntmps18
  go_upto_region 1 with(fail)
  generalize Nu:w.alloc _=w0 at xB AL⊢;clear Nu;have XX:=uY.below xB ag;have hP0:=hPow.belows xB h16;have hE0:=hE.belows xB;have hR0:Dw w0:=hT.below xB ag;have akn:Pt w0 (λ_=>False) vp p:=hP.later (S:=λ_=>False) (.qF xB) (λ_ x=>x) (λ_ _ x=>x);have KN:=MW w0;have Ou:w.heap.size<w0.heap.size:=AL.lt
  go_upto_region 2 with(first|(go_at_call 32;(with_reducible refine KN.mono ?_);rintro q w1 ⟨xb,rb,rfl,n1,n2,n3,n4,n5⟩))
  have Gy:=AL.later (S:=λ_=>False) (.qF n5) AL.lt id;have hn5:=n5.size
  have ako:Pt w1 (qZ rb (.slice none 0 0) (.slice none 0 0)) vp p:=akn.later (S:=λ_=>False) (.qF n5) (λ_ x=>x) (λk hk x=>by
   rcases x with h|h|h
   .omega
   .cases h
   .cases h)
  have hMr:∀k,qZ rb (.slice none 0 0) (.slice none 0 0) k->k=rb:=λk x=>by
   rcases x with h|h|h
   .exact h
   .cases h
   .cases h
  have hxr:xb≠rb:=by exact azx
  have alo:=n2.lt;have KF:=ab4 w0.heap.size xb rb [] p (qZ rb (.slice none 0 0) (.slice none 0 0)) vp w1 n1 (λh=>hxr (hMr _ h)) (.live _ _ n2 (λ_ h=>h)) ako awd (XX.below n5 ag) (hP0.belows n5 ag) ag n3 (λk h=>nC) a (hE0.belows n5) (hR0.below n5 ag);rw[dA]at KF;unfold Pq at KF
  go_upto_region 3 with(first|(go_at_call 33;(with_reducible refine KF.mono ?_);rintro q w2 ⟨rfl,g1,⟨M',g2,g3⟩,g4⟩))
  have TT:∀k,M' k->5<=k:=λk h=>by
   rcases bJ k w1.heap.size with q|q
   .have:=hMr k ((g3 k h).2 q);omega
   .omega
  have apT:=ql.lt n1;have hxM:¬M' xb:=λh=>hxr (hMr _ ((g3 xb h).2 apT))
  have hbM:¬M' w.heap.size:=λh=>ax3
  have Ug:=Gy.later g1 Gy.lt (λh=>by have:=hMr _ h;omega);have hnM:∀k,k<5->¬qZ rb (.slice none 0 0) (.slice none 0 0) k:=λk hk h=>nC
  have KI:=VD w0.heap.size xb rb p M' w2 g4 hxM ag g2 hlen ((XX.below n5 ag).but g1 ag (hnM 2 ag)) ((hP0.belows n5 ag).but g1 (λk hk=>⟨ag,hnM k hk⟩)) ag n3 TT (λk h=>(g3 k h).1) a ((hE0.belows n5).but g1 ag (hnM 0 ag)) ((g1.cell (p:=⟨1,0,none⟩) avq (hnM 1 ag)).trans (hR0.below n5 ag));unfold Uu at KI;rw[Ej]at KI;simp only at KI;have Ap:rQ w.heap.size (λ_=>False) w w2:=(((rQ.qF (xB.trans (n5.mono ag))):rQ w.heap.size (λ_=>False) w w1)).step g1 (λk hk h=>nC);have hxw:¬w.heap.size=xb:=ag;clear KF KN XX hP0 hE0 hR0 akn ako n2
  go_wp2_with(first|(go_at_call 34;(with_reducible refine KI.mono ?_);rintro q w3 ⟨k1,k2,vN,vS,vC,rfl,o1,o2,o3⟩;unfold zi;obtain⟨bn,cn,rfl⟩:=uF o1;obtain⟨bz,cz,rfl⟩:=uF o2;obtain⟨bc,cc,rfl⟩:=uF o3;have Oy:=Ug.later k1 Ug.lt (λx=>x.elim hbM hxw);have c0:=Oy.cell (i:=0) rfl;have c1:=Oy.cell (i:=1) rfl;have c2:=Oy.cell (i:=2) rfl;have c3:=Oy.cell (i:=3) rfl;have c4:=Oy.cell (i:=4) rfl;have c5:=Oy.cell (i:=5) rfl;have c6:=Oy.cell (i:=6) rfl;have f0:=Oy.frozen))
  obtain⟨hF,hG⟩:=ad4 (b0:=.int .i64 (sh.k:Int)) (b1:=.int .i64 (sh.n:Int)) (b2:=.int .i64 (sh.i:Int)) (b3:=.int .i64 (sh.c:Int)) (b4:=.slice bn sh.names.length cn) (b5:=.slice bz sh.sizes.length cz) (b6:=.slice bc sh.qH.length cc) Oy
  have Ov:rQ w.heap.size (λ_=>False) w w3:=Ap.step k1 (λk hk h=>by
   rcases h with h|h
   .have:=hMr k ((g3 k h).2 ag);omega
   .omega)
  have hBB:=(Ov.step hG (λk hk e=>ag)).below (λ_ _=>id);refine iD (Bi (p:=2) (u:=3) (t:=4) rfl _ _ w.heap.size 55 _ (0,0) _ aI hF underlying55 rfl aj) rfl ?_;exact⟨hBB,_,_,_,rfl,BX (yP Oy hG o1 aC) ag,BX (yP Oy hG o2 aC) ag,BX (yP Oy hG o3 aC) ag⟩
end
theorem qU.str{w:ah}{v:ai}{l:ak}(h:qU w v (sJ l)):(convert 34 9 v).run prog w=.ok (.string ⟨l.toArray⟩) w:=by
 obtain⟨ba,cap,rfl,Ci,hc⟩:=h;rw[sZ]at Ci⊢;by_cases h0:l=[]
 .subst h0;show(convert 34 9 (.slice ba 0 cap)).run prog w=_;rw[run_convert_bytes_string w 34 9 5 ba 0 cap underlying34 underlying5 underlying9];cases ba<;>rfl
 .have hp:0<l.length:=lX.2 h0;obtain⟨b,off,rfl,_⟩:=hc 0 _ (wJ hp);refine run_convert_bytes_back w 34 9 5 ⟨b,off,none⟩ cap l underlying34 underlying5 underlying9 (λj hj=>?_);obtain⟨b',ahO,e,h2⟩:=hc j _ (wJ hj);cases e;rw[H7,h2];simp[tZ,cO hj]
structure au_(w:ah)(s:xG)(vN vS vC:ai):Prop where
 n:qU w vN (DT s.names)
 z:qU w vS (zV s.sizes)
 c:qU w vC (sJ s.qH)
theorem abB(a b:ak)(va vb:ai)(w:ah)(ha:qU w va (sJ a))(hb:qU w vb (sJ b)):
  Calls prog 68 #[va,vb] w λr w'=>r=.returned (.bool (a==b))/\w'=w:=by
 have s1:=ha.str;have s2:=hb.str;obtain⟨pa,ca,rfl⟩:=ha.len;obtain⟨pb,cb,rfl⟩:=hb.len;go_enter func68,ntmps68;exact ayj
theorem Zd(l:ak)(v:ai)(w:ah)(h:qU w v (sJ l))(hl:l.length<=1048576):
  Calls prog 69 #[v] w λr w'=>∃v',r=.returned v'/\w'.ownsRow w.heap.size 5 1 v' l.length (sJ l)/\Below w.heap.size w w':=by
 obtain⟨i0,Ak,yz,xA,wH⟩:=dm BJ;obtain⟨ba,cap,rfl,Ci,hc⟩:=h;have el:(sJ l).length=l.length:=eX;have q22:∀(w:ah)(a:aY)(n c n' c':Nat),(binOp .eql 34 (.slice a n c) (.slice none n' c')).run prog w=.ok (.bool a.isNone) w:=λw a n c n' c'=>Lib.run_eql_slice_nil w _ _ a n c n' c' underlying34
 rw[el]at Ci⊢;cases ba with
 |none=>
  obtain rfl:l=[]:=by
   rcases l with _|⟨x,l⟩
   .rfl
   .obtain⟨b,off,e,_⟩:=hc 0 _ rfl;cases e
  go_enter func69,ntmps69;go_wp2;go_ret;exact⟨_,rfl,dK _ _ _ _,aT _ _⟩
 |some ad=>
  have b1:Below w.heap.size w (w.alloc (.cells #[] 5)):=(aT _ _).alloc (az _) _;have DD:(w.alloc (.cells #[] 5)).ownsRow w.heap.size 5 1 (.slice (some ⟨w.heap.size,0,none⟩) 0 0) 0 []:=⟨rfl,.inr ⟨w.heap.size,0,#[],rfl,az _,fC _ _,az _,dB,rfl,rfl⟩⟩
  have aqD:∀j u,(sJ l)[j]?=some u->(w.alloc (.cells #[] 5)).cell? (ad.add j)=some u:=λj u hj=>by obtain⟨b,off,e,hcc⟩:=hc j u hj;cases e;rw[Addr.add_mid];exact(b1.cell (p:=⟨b,off+j,none⟩) (rG hcc)).trans hcc
  have h1:∀u∈sJ l,u.oneCell'=true:=λu hu=>by obtain⟨x,_,rfl⟩:=gz.1 hu;rfl
  generalize BB:w.alloc (.cells #[] 5)=w1 at*;go_enter func69,ntmps69
  go_wp2_with(at_builtin;refine eP _ rfl _ _ 34 rfl w.heap.size 5 i0 (.int .u8 0) 1 1 underlying34 Ak yz xA wH rfl aC _ _ _ rfl DD ad l.length cap (sJ l) rfl eX aqD h1 dB ag b1.size ?_;intro v' w5 Hf sO anL)
  go_wp2;go_ret;exact⟨v',rfl,by simpa using Hf,b1.grown sO b1.size (λk hk=>by have e:w.heap.size=k:=gp hk;omega)⟩
end Go.Proofs.Y
namespace Go.Proofs
open Go.Shelf
def Tryz.aeV:Go.Shelf.Ren:=⟨fun|14=>66|15=>107|n=>n,fun|26=>28|22=>34|3=>3|4=>4|0=>0|9=>9|20=>20|5=>5|n=>n,fun|n=>n⟩
theorem Tryz.aeW:Go.Proofs.SlLaysJ.n14 prog Tryz.aeV:={
 mixed:=aj
 f14:=func66.trans (bI some aj)
 f15:=func107.trans (bI some aj)
 t0:=underlying0
 a0:=Tryz.isAgg0
 z0:=Tryz.sizeOf0
 v0:=Tryz.zeroValue0
 t3:=underlying3
 a3:=Tryz.isAgg3
 z3:=Tryz.sizeOf3
 v3:=Tryz.zeroValue3
 t4:=underlying4
 a4:=Tryz.isAgg4
 z4:=Tryz.sizeOf4
 v4:=Tryz.zeroValue4
 t9:=underlying9
 a9:=Tryz.isAgg9
 z9:=Tryz.sizeOf9
 v9:=Tryz.zeroValue9
 t20:=underlying20
 a20:=Tryz.isAgg20
 z20:=Tryz.sizeOf20
 v20:=Tryz.zeroValue20
 t22:=underlying34
 a22:=Tryz.isAgg34
 z22:=Tryz.sizeOf34
 v22:=Tryz.zeroValue34
 t26:=underlying28
 a26:=Tryz.isAgg28
 z26:=Tryz.sizeOf28
 v26:=Tryz.zeroValue28
 t5:=underlying5
 z5:=Tryz.sizeOf5
 i5:=aj}
end Go.Proofs
namespace Go.Proofs.Y
open Go.Proofs.Tryz
open Go.RowKit Go.Deep Go.Lib
theorem join_none(ls:List (ak)):Lib.join ls []=ls.flatten:=by
 unfold Lib.join
 induction ls with
 |nil=>rfl
 |cons x r ih=>
  cases r with
  |nil=>simp[List.intercalate]
  |cons y r=>
   simp only[List.intercalate,List.intersperse,jY,dA]at ih⊢;rw[ih]
theorem qU.fresh{B:Nat}{w:ah}{v:ai}{l:ak}(h:FreshBytes B w v l):qU w v (sJ l):=by
 obtain⟨g,cap,zs,rfl,_,h2,_,h4,h5,h6,h7,_⟩:=h;have el:(sJ l).length=l.length:=eX;refine⟨some ⟨g,0,none⟩,cap,by rw[el],by rw[el];exact h2,λj u hj=>⟨g,0,rfl,?_⟩⟩;have Jh:j<l.length:=by have:=(fJ.1 hj).1;omega
 rw[bM,h7 j ag,<-hj,wJ Jh]
 congr 2
 have hz:0<=zs.getD j 0/\zs.getD j 0<256:=by
  have:zs.getD j 0∈zs:=by rw[bH,cO ag];exact List.getElem_mem _
  exact h5 _ this
 have e1:l.getD j 0=UInt8.ofNat (zs.getD j 0).toNat:=by
  have:l[j]?=(bytesOf (zs.take l.length))[j]?:=by rw[h6]
  simp only[bytesOf,dO,jX,ay Jh]at this;rw[bH,bH,this,cO ag];rfl
 rw[tZ,e1];generalize zs.getD j 0=z at hz;simp only[fP];omega
structure apq(w:ah)(C K L:Nat)(dN:Nat->Nat)(ls:List (ak)):Prop where
 len:ls.length=K
 each:∀l∈ls,l.length=L
 at0:∀t,t<K->w.cell? ⟨C,t,none⟩=some (.slice (some ⟨dN t,0,none⟩) L L)
 byte:∀t l,ls[t]?=some l->∀m x,l[m]?=some x->w.cell? ⟨dN t,m,none⟩=some (.int .u8 (x.toNat:Int))
theorem afG{L:Nat}:∀(ls:List (ak)),(∀l∈ls,l.length=L)->Lib.lens ls=ls.length*L
 |[],_=>by simp[Lib.lens]
 |l::r,h=>by
  have:=afG r λx hx=>h x (lU _ hx)
  simp only[Lib.lens,gU,jT,dJ,gQ]at this⊢;rw[this,h l List.mem_cons_self,jy]
def Oz(v:ai)(n:Nat):Prop:=v=.slice none 0 0/\n=0\/∃b off cap,v=.slice (some ⟨b,off,none⟩) n cap/\n<=cap
theorem Oz.fresh{B:Nat}{w:ah}{v:ai}{l:ak}(h:FreshBytes B w v l):Oz v l.length:=by obtain⟨g,cap,zs,rfl,_,h2,_⟩:=h;exact .inr ⟨g,0,cap,rfl,h2⟩
theorem agK{w:ah}{C K L:Nat}{dN:Nat->Nat}{ls:List (ak)}(h:apq w C K L dN ls)(hK:0<K/\K<=128)(hL:L<=65536):
  Calls prog 66 #[.slice (some ⟨C,0,none⟩) K K,.slice none 0 0] w λr w'=>∃v,r=.returned v/\qU w' v (sJ ls.flatten)/\Oz v ls.flatten.length/\Below w.heap.size w w':=by
 by_cases h2:2<=K
 .have hP:Lib.PartsAt w ⟨C,0,none⟩ ((List.range K).map λt=>.slice (some ⟨dN t,0,none⟩) L L) ls:=by
   refine⟨by simp[h.len],λi v hv=>?_,λi v l hv hl=>?_⟩
   .rw[dO]at hv;obtain⟨j,hj,rfl⟩:=dL.1 hv;have hi:=(fJ.1 hj);obtain⟨h1,h3⟩:=hi;simp at h1 h3;subst h3;rw[Addr.add_mid,bM];exact h.at0 i h1
   .rw[dO]at hv;obtain⟨j,hj,rfl⟩:=dL.1 hv;obtain⟨h1,h3⟩:=(fJ.1 hj);simp at h1 h3;subst h3;refine⟨some ⟨dN i,0,none⟩,L,by rw[h.each l (jA hl)],(λe=>by cases e),λa ha m x hx=>?_⟩;cases ha;rw[Addr.add_mid,bM];exact h.byte i l hl m x hx
  have hb:Lib.lens ls+([]:ak).length*(K-1)<=140737488355328:=by rw[afG ls h.each,h.len];have:K*L<=128*65536:=kR hK.2 hL;simp;omega
  have k:=Any.bytes_Join_many Tryz.aeW C 0 K K _ ls (.slice none 0 0) [] w h.len h2 hP (az _) ⟨none,0,rfl,λ_=>rfl,(λa ha=>by cases ha)⟩ ag hb;refine k.mono ?_;rintro r w' ⟨v,rfl,hF,hB⟩;rw[join_none]at hF;exact⟨v,rfl,qU.fresh hF,Oz.fresh hF,hB⟩
 .obtain rfl:K=1:=ag;obtain⟨l0,rfl⟩:∃l0,ls=[l0]:=List.length_eq_one_iff.1 h.len;have e0:=h.each l0 ax;have c0:=h.at0 0 ag;have hf:[l0].flatten=l0:=ax;rw[hf];rcases fE L with h0|h0
  .subst h0;obtain rfl:l0=[]:=l7 e0;refine(Any.bytes_Join_one_empty Tryz.aeW C 0 1 (some ⟨dN 0,0,none⟩) 0 (.slice none 0 0) w c0).mono ?_;rintro r w' ⟨rfl,rfl⟩;exact⟨_,rfl,⟨none,0,rfl,az _,λj u hj=>oh⟩,.inl ⟨rfl,rfl⟩,aT _ _⟩
  .rw[<-e0]at c0;refine(Any.bytes_Join_one Tryz.aeW C 0 1 ⟨dN 0,0,none⟩ l0.length l0 (.slice none 0 0) w c0 (λi x hx=>?_) ag ag).mono ?_
   .rw[Addr.add_mid,bM];exact h.byte 0 l0 rfl i x hx
   .rintro r w' ⟨v,rfl,hF,hB⟩;exact⟨v,rfl,qU.fresh hF,Oz.fresh hF,hB⟩
