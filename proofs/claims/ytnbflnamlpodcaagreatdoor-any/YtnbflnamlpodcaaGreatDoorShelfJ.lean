import Derived.Test.YtnbflnamlpodcaaGreatDoorPrV
import Derived.Test.YtnbflnamlpodcaaGreatDoorErD
import Derived.Shelf.Bytes.SlJoin
set_option maxHeartbeats 2000000
set_option maxRecDepth 100000
namespace Go.Proofs.Y
open Go.RowKit Go.Deep
theorem age(rb:Nat)(l:List UInt8)(w:World)(hD:Dead w rb l):Calls Tryz.prog 59 #[.pointer (some ⟨rb,0,none⟩)] w λq w'=>H9 0 w l (λ_=>False) q w':=by
 have hb0:=(aA w.heap.size w).alloc (ak _) (.cells x8.toArray 55);have hx0:qf (w.alloc (.cells x8.toArray 55)) w.heap.size x8 55:=qf.made w _ _
 have hD0:Dead (w.alloc (.cells x8.toArray 55)) rb l:=by obtain⟨v,d,e,hd,hR,hC,h4,hE⟩:=hD;exact⟨v,d,e,hd,qf.later hR (S:=λ_=>False) (.of_below hb0) (qf.lt hR) id,hC.under hb0,h4,hE⟩
 have K:=Uo rb l (.slice none 0 0) _ hD0;unfold H9;obtain⟨v,d,e,hd,hR,hC,h4,hE⟩:=hD0;have hpe:qP l=.error e:=by have:=hE [];rwa[dC]at this
 rw[hpe]
 have K2:Calls Tryz.prog 57 #[.pointer (some ⟨rb,0,none⟩),.slice none 0 0] (w.alloc (.cells x8.toArray 55)) λq w'=>w'=w.alloc (.cells x8.toArray 55)/\∃v d,d<=2/\q=.returned v/\Chain w' d v e.1 e.2:=by refine K.mono ?_;rintro q w' ⟨rfl,v',d',e',k1,k2,k3,k4,k5⟩;have:=k5 [];rw[dC,hpe]at this;cases this;exact⟨rfl,v',d',k1,k2,k3⟩
 clear K hD hpe hE hR hC hd;unfold x8 xB at hb0 hx0 K2;go_enter Tryz.func59,Tryz.ntmps59
 go_upto_region 1 with(fail)
 generalize hw0:w.alloc _=w0 at hb0 hx0 K2⊢;clear hw0;have c0:=hx0.cell (i:=0) rfl;have c1:=hx0.cell (i:=1) rfl;have c2:=hx0.cell (i:=2) rfl;have c3:=hx0.cell (i:=3) rfl;have c4:=hx0.cell (i:=4) rfl;have c5:=hx0.cell (i:=5) rfl;have c6:=hx0.cell (i:=6) rfl;have f0:=hx0.frozen
 go_wp2_with(first|(go_at_call 57;with_reducible refine K2.mono ?_;rintro q w1 ⟨hw1,v,d,hd,rfl,g2⟩;obtain rfl:=hw1.symm;obtain⟨ty,x,rfl⟩:=g2.iface))
 obtain⟨hF,hG⟩:=aav (b0:=.int .i64 0) (b1:=.int .i64 0) (b2:=.int .i64 0) (b3:=.int .i64 0) (b4:=.slice none 0 0) (b5:=.slice none 0 0) (b6:=.slice none 0 0) hx0;have hC:=g2.other hx0 au au hG;refine fU (BR (p:=2) (u:=3) rfl _ _ w.heap.size 55 _ (0,0) _ ax hF Tryz.underlying55 rfl ag) rfl ?_;exact⟨(But.of_below hb0).step hG (λk hk e=>ae),_,d,hd,rfl,hC⟩
def zh(w:World)(xb:Nat)(m r:Option Addr):Prop:=qf w xb [.pointer m,.pointer r] 124
theorem ah3:∃j,Tryz.prog.info? 124=some j:=aoR.1 ag
theorem agf(a:Addr)(w:World):(binOp .neq 80 (.pointer (some a)) (.pointer (some a))).run Tryz.prog w=.ok (.bool false) w:=by obtain⟨j,hj⟩:=ah3;exact Lib.run_neq_ptr_same w a Tryz.underlying80 hj
theorem N8(xb rb:Nat)(w:World)(h:zh w xb (some ⟨xb,0,none⟩) (some ⟨rb,0,none⟩)):Calls Tryz.prog 56 #[.pointer (some ⟨xb,0,none⟩)] w λq w'=>q=.returned (.bool false)/\w'=w:=by have c0:=qf.cell h (i:=0) rfl;have c1:=qf.cell h (i:=1) rfl;have e1:=agf ⟨xb,0,none⟩;go_enter Tryz.func56,Tryz.ntmps56;exact aqd
def St.zero:St:=⟨0,0,0,0,[],[],[],0,0,0,0,0⟩
theorem ac6:G7 St.zero [] []:=⟨λx=>.head rfl rfl rfl,⟨by simp[St.zero],λi hi=>by simp at hi⟩,⟨au,au,au,au,au,au⟩,⟨λ_=>rfl,(λh=>absurd h au),(λh=>absurd h au)⟩,λ_=>ai,λ_=>rfl⟩
theorem IM(w:World):Calls Tryz.prog 32 #[] w λq w'=>∃xb rb,q=.returned (.pointer (some ⟨xb,0,none⟩))/\zh w' xb (some ⟨xb,0,none⟩) (some ⟨rb,0,none⟩)/\Live w.heap.size w' rb [] (.slice none 0 0) (.slice none 0 0)/\w.heap.size<=rb/\w.heap.size<=xb/\Below w.heap.size w w':=by
 go_enter Tryz.func32,Tryz.ntmps32;go_wp2;go_ret;have hb1:=(aA w.heap.size w).alloc (ak _) (.cells (St.zero.rd (.slice none 0 0) (.slice none 0 0) (.slice none 0 0) (.slice none 0 0) .nilIface).cells.toArray 122);have hR1:wH (w.alloc (.cells (St.zero.rd (.slice none 0 0) (.slice none 0 0) (.slice none 0 0) (.slice none 0 0) .nilIface).cells.toArray 122)) w.heap.size (St.zero.rd (.slice none 0 0) (.slice none 0 0) (.slice none 0 0) (.slice none 0 0) .nilIface):=qf.made w _ _;have hs1:(w.alloc (.cells (St.zero.rd (.slice none 0 0) (.slice none 0 0) (.slice none 0 0) (.slice none 0 0) .nilIface).cells.toArray 122)).heap.size=w.heap.size+1:=ai
 have key:∀w1:World,Below w.heap.size w w1->wH w1 w.heap.size (St.zero.rd (.slice none 0 0) (.slice none 0 0) (.slice none 0 0) (.slice none 0 0) .nilIface)->w1.heap.size=w.heap.size+1->
   zh (w1.alloc (.cells #[.pointer (some ⟨w.heap.size+1,0,none⟩),.pointer (some ⟨w.heap.size,0,none⟩)] 124)) (w.heap.size+1) (some ⟨w.heap.size+1,0,none⟩) (some ⟨w.heap.size,0,none⟩)/\Live w.heap.size (w1.alloc (.cells #[.pointer (some ⟨w.heap.size+1,0,none⟩),.pointer (some ⟨w.heap.size,0,none⟩)] 124)) w.heap.size [] (.slice none 0 0) (.slice none 0 0)/\Below w.heap.size w (w1.alloc (.cells #[.pointer (some ⟨w.heap.size+1,0,none⟩),.pointer (some ⟨w.heap.size,0,none⟩)] 124)):=by
  intro w1 h1 h2 h3;have hb2:=(aA w1.heap.size w1).alloc (ak _) (.cells #[.pointer (some ⟨w.heap.size+1,0,none⟩),.pointer (some ⟨w.heap.size,0,none⟩)] 124);have hX:=qf.made w1 [.pointer (some ⟨w.heap.size+1,0,none⟩),.pointer (some ⟨w.heap.size,0,none⟩)] 124;rw[h3]at hX;refine⟨hX,⟨St.zero,[],.slice none 0 0,.slice none 0 0,⟨qf.later h2 (S:=λ_=>False) (.of_below hb2) (qf.lt h2) id,bT _ _ _ _,bT _ _ _ _,bT _ _ _ _,bT _ _ _ _,(λg hg=>pV),?_⟩,ac6,rfl⟩,h1.trans (hb2.mono h1.size)⟩;have:=hb2.size;omega
 obtain⟨k1,k2,k3⟩:=key _ hb1 hR1 hs1;exact⟨w.heap.size+1,w.heap.size,rfl,k1,k2,ak _,ae,k3⟩
inductive RSt (B:Nat) (w:World) (rb:Nat) (l:List UInt8) (M:Nat->Prop):Prop
 |live (vC vT:Value) (h:Live B w rb l vC vT) (hM:∀k,Mine rb vC vT k->M k)
 |dead (h:Dead w rb l) (hM:M rb)
theorem RSt.below{B:Nat}{w w':World}{rb:Nat}{l:List UInt8}{M:Nat->Prop}(h:RSt B w rb l M)(hb:Below w.heap.size w w'):RSt B w' rb l M:=by
 cases h with
 |live vC vT h hm=>exact .live vC vT (h.below hb) hm
 |dead h hm=>
  obtain⟨v,d,e,hd,hR,hC,h4,hE⟩:=h;exact .dead ⟨v,d,e,hd,qf.later hR (S:=λ_=>False) (.of_below hb) (qf.lt hR) id,hC.under hb,h4,hE⟩ hm
theorem Pt.less{w:World}{M M':Nat->Prop}{v:Value}{p:List UInt8}(h:Pt w M v p)(hM:∀k,M' k->M k):Pt w M' v p:=by
 rcases h with h|⟨ad,c,e,h1,h2,h3⟩
 .exact .inl h
 .exact .inr ⟨ad,c,e,h1,λx y=>h2 x (hM _ y),h3⟩
def aiE(B:Nat)(w:World)(rb:Nat)(M:Nat->Prop)(L:List UInt8)(q:Ending)(w':World):Prop:=
 But w.heap.size M w w'/\(∃M',RSt B w' rb L M'/\∀k,M' k->k<w'.heap.size/\(k<w.heap.size->M k))/\match qP L with
 | .error e=>∃v d,d<=2/\q=.returned v/\Chain w' d v e.1 e.2
 | .ok _=>q=.returned .nilIface
section
variable (B rb:Nat)(l p:List UInt8)(M:Nat->Prop)(vp:Value)(w:World)(hR:RSt B w rb l M)(hP:Pt w M vp p)(hlen:l.length+p.length<=4611686018427387904)(tY:Tab w)(hPow:Pow w)(Fq:5<=B)(OA:B<=rb)(a:Addr)(hE:Early w a)
include hR hP hlen tY hPow Fq OA hE in
theorem take_any:Calls Tryz.prog 57 #[.pointer (some ⟨rb,0,none⟩),vp] w λq w'=>aiE B w rb M (l++p) q w':=by
 cases hR with
 |live vC vT h hm=>
  have hrl:rb<w.heap.size:=h.lt.2 _ (.inl rfl);refine(Un B rb l p vC vT vp w h (hP.less hm) hlen tY hPow Fq OA a hE).mono ?_;rintro q w' ⟨h1,h2⟩;refine⟨h1.mono (ak _) hm,?_⟩;have sub:∀{Dw AP:Value},Live B w' rb (l++p) Dw AP->(∀k,k<w.heap.size->Mine rb Dw AP k->Mine rb vC vT k)->∀k,Mine rb Dw AP k->k<w'.heap.size/\(k<w.heap.size->M k):=λhl hs k hk=>⟨hl.lt.2 k hk,λq=>hm k (hs k q hk)⟩
  rcases h2 with⟨v,d,e,k1,k2,k3,k4,k5,k6⟩|⟨k0,s,vN,vS,Dw,AP,m1,m2,m3,m4,m5,m6⟩
  .rw[k4];refine⟨?_,v,d,k1,k2,k3⟩;by_cases q4:e.1=4
   .obtain⟨Dw,AP,n1,n2⟩:=k6 q4;exact⟨_,.live Dw AP n1 (λ_ h=>h),sub n1 n2⟩
   .exact⟨(· =rb),.dead (k5 q4) rfl,λk hk=>by subst hk;exact⟨aN hrl h1.size,λ_=>hm _ (.inl rfl)⟩⟩
  .rw[m5];have hlv:Live B w' rb (l++p) Dw AP:=⟨s,[],vN,vS,m1,m2,m4⟩;exact⟨⟨_,.live Dw AP hlv (λ_ h=>h),sub hlv m6⟩,k0⟩
 |dead h hm=>
  refine(Uo rb l vp w h).mono ?_;rintro q w' ⟨rfl,v,d,e,k1,k2,k3,k4,k5⟩;refine⟨But.refl _ _ _,?_,?_⟩
  .obtain⟨v',d',e',j1,j2,j3,j4,j5⟩:=h;exact⟨(· =rb),.dead ⟨v',d',e',j1,j2,j3,j4,λx=>by rw[eP];exact j5 (p++x)⟩ rfl,λk hk=>by subst hk;exact⟨qf.lt j2,λ_=>hm⟩⟩
  .rw[k5 p];exact⟨v,d,k1,k2,k3⟩
end
theorem ah4(B rb:Nat)(l:List UInt8)(M:Nat->Prop)(w:World)(hR:RSt B w rb l M)(hlen:l.length<=4611686018427387904)(tY:Tab w)(hPow:Pow w)(Fq:5<=B)(OA:B<=rb)(a:Addr)(hE:Early w a):
  Calls Tryz.prog 59 #[.pointer (some ⟨rb,0,none⟩)] w λq w'=>H9 B w l M q w':=by
 cases hR with
 |live vC vT h hm=>
  refine(af5 B rb l vC vT w hlen tY hPow Fq OA a hE h).mono ?_;rintro q w' ⟨h1,h2⟩;exact⟨h1.mono (ak _) hm,h2⟩
 |dead h hm=>
  refine(age rb l w h).mono ?_;rintro q w' ⟨h1,h2⟩;refine⟨h1.mono (ak _) (λ_ x=>x.elim),?_⟩;obtain⟨v,d,e,hd,hR',hC,h4,hE'⟩:=h;have hpe:qP l=.error e:=by have:=hE' [];rwa[dC]at this
  rw[hpe]at h2⊢;exact h2
def agh(L:List UInt8):Nat×Nat:=match qP L with
 | .error e=>if e.1=4 then(0,0)else e
 | .ok _=>(0,0)
def KZ(B:Nat)(w:World)(xb rb:Nat)(M:Nat->Prop)(L:List UInt8)(q:Ending)(w':World):Prop:=
 q=.returned (.tuple #[.int .i64 ((agh L).1:Int),.int .i64 ((agh L).2:Int)])/\But w.heap.size M w w'/\(∃M',RSt B w' rb L M'/\∀k,M' k->k<w'.heap.size/\(k<w.heap.size->M k))/\zh w' xb (some ⟨xb,0,none⟩) (some ⟨rb,0,none⟩)
section
variable (B xb rb:Nat)(l p:List UInt8)(M:Nat->Prop)(vp:Value)(w:World)(hX:zh w xb (some ⟨xb,0,none⟩) (some ⟨rb,0,none⟩))(hxM:¬M xb)(hR:RSt B w rb l M)(hP:Pt w M vp p)(hlen:l.length+p.length<=4611686018427387904)(tY:Tab w)(hPow:Pow w)(Fq:5<=B)(OA:B<=rb)(OB:∀k,M k->5<=k)(a:Addr)(hE:Early w a)(hT:Aj w)
include hX hxM hR hP hlen tY hPow Fq OA OB hE hT in
theorem Ym:Calls Tryz.prog 33 #[.pointer (some ⟨xb,0,none⟩),vp] w λq w'=>KZ B w xb rb M (l++p) q w':=by
 have KC:=N8 xb rb w hX;have KT:=take_any B rb l p M vp w hR hP hlen tY hPow Fq OA a hE;have c1:=qf.cell hX (i:=1) rfl;have hxl:=qf.lt hX;have hsz1:1<w.heap.size:=cell_lt hT;have hEb:∀w',But w.heap.size M w w'->Early w' a:=λw' h=>hE.but h ae (λx=>by have:=OB 0 x;omega)
 have hTb:∀w',But w.heap.size M w w'->Aj w':=λw' h=>(h.cell (p:=⟨1,0,none⟩) hsz1 (λx=>aoO)).trans hT
 have hXb:∀w',But w.heap.size M w w'->zh w' xb (some ⟨xb,0,none⟩) (some ⟨rb,0,none⟩):=λw' h=>qf.later hX h hxl hxM
 unfold aiE at KT;unfold KZ agh;cases hpe:qP (l++p)with
 |error e=>
  rw[hpe]at KT;simp only at KT⊢;by_cases q4:e.1=4
  .simp only[aj q4];clear hR hP tY hPow hX;go_enter Tryz.func33,Tryz.ntmps33
   go_wp2_with(first|(go_at_call 56;(with_reducible refine KC.mono ?_);rintro q w1 ⟨rfl,hw1⟩;obtain rfl:=hw1.symm)|(go_at_call 57;(with_reducible refine KT.mono ?_);rintro q w2 ⟨g1,g2,v,d,hd,rfl,g3⟩;have hE2:=hEb _ g1;have ce:w2.cell? ⟨0,0,none⟩=_:=hE2;have KI:=KP d hd v a e.1 e.2 w2 g3 hE2;rw[ik q4]at KI;obtain⟨ty,x,rfl⟩:=g3.iface)|(go_at_call 58;(with_reducible refine KI.mono ?_);rintro q w3 ⟨rfl,hw3⟩;obtain rfl:=hw3.symm))
   go_ret2;exact⟨rfl,g1,g2,hXb _ g1⟩
  .simp only[ah q4];clear hR hP tY hPow hX;go_enter Tryz.func33,Tryz.ntmps33
   go_wp2_with(first|(go_at_call 56;(with_reducible refine KC.mono ?_);rintro q w1 ⟨rfl,hw1⟩;obtain rfl:=hw1.symm)|(go_at_call 57;(with_reducible refine KT.mono ?_);rintro q w2 ⟨g1,g2,v,d,hd,rfl,g3⟩;have hE2:=hEb _ g1;have ce:w2.cell? ⟨0,0,none⟩=_:=hE2;have KI:=KP d hd v a e.1 e.2 w2 g3 hE2;rw[dO q4]at KI;have KA:=Ea d hd v e.1 e.2 w2 g3 (hTb _ g1);obtain⟨ty,x,rfl⟩:=g3.iface)|(go_at_call 58;(with_reducible refine KI.mono ?_);rintro q w3 ⟨rfl,hw3⟩;obtain rfl:=hw3.symm)|(go_at_call 20;(with_reducible refine KA.mono ?_);rintro q w4 ⟨rfl,g4⟩))
   go_ret2;exact⟨rfl,uU g1 g4,(by obtain⟨M',z1,z2⟩:=g2;exact⟨M',z1.below g4,λk hk=>⟨aN (z2 k hk).1 g4.size,(z2 k hk).2⟩⟩),qf.later (hXb _ g1) (S:=λ_=>False) (.of_below g4) (qf.lt (hXb _ g1)) id⟩
 |ok sh=>
  rw[hpe]at KT;simp only at KT⊢;clear hR hP tY hPow hX;go_enter Tryz.func33,Tryz.ntmps33
  go_wp2_with(first|(go_at_call 56;(with_reducible refine KC.mono ?_);rintro q w1 ⟨rfl,hw1⟩;obtain rfl:=hw1.symm)|(go_at_call 57;(with_reducible refine KT.mono ?_);rintro q w2 ⟨g1,g2,rfl⟩;have hE2:=hEb _ g1;have ce:w2.cell? ⟨0,0,none⟩=_:=hE2;have KI:=akg a w2;have KA:=IX w2)|(go_at_call 58;(with_reducible refine KI.mono ?_);rintro q w3 ⟨rfl,hw3⟩;obtain rfl:=hw3.symm)|(go_at_call 20;(with_reducible refine KA.mono ?_);rintro q w4 ⟨rfl,g4⟩))
  go_ret2;exact⟨rfl,uU g1 g4,(by obtain⟨M',z1,z2⟩:=g2;exact⟨M',z1.below g4,λk hk=>⟨aN (z2 k hk).1 g4.size,(z2 k hk).2⟩⟩),qf.later (hXb _ g1) (S:=λ_=>False) (.of_below g4) (qf.lt (hXb _ g1)) id⟩
end
def OV(B:Nat)(w:World)(xb:Nat)(M:Nat->Prop)(l:List UInt8)(q:Ending)(w':World):Prop:=
 But w.heap.size (λk=>M k\/k=xb) w w'/\zh w' xb (some ⟨xb,0,none⟩) none/\match qP l with
 | .error e=>q=.returned (.tuple #[Bj,.int .i64 (e.1:Int),.int .i64 (e.2:Int)])
 | .ok s=>∃vN vS vC,q=.returned (.tuple #[.agg (xB s.k s.n s.i s.c vN vS vC).toArray,.int .i64 0,.int .i64 0])/\
   w'.ownsRow B 9 1 vN s.names.length (AB s.names)/\w'.ownsRow B 3 1 vS s.sizes.length (yh s.sizes)/\w'.ownsRow B 5 1 vC s.qx.length (rF s.qx)
section
variable (B xb rb:Nat)(l:List UInt8)(M:Nat->Prop)(w:World)(hX:zh w xb (some ⟨xb,0,none⟩) (some ⟨rb,0,none⟩))(hxM:¬M xb)(hx16:5<=xb)(hR:RSt B w rb l M)(hlen:l.length<=4611686018427387904)(tY:Tab w)(hPow:Pow w)(Fq:5<=B)(OA:B<=rb)(OB:∀k,M k->5<=k)(hMl:∀k,M k->k<w.heap.size)(a:Addr)(hE:Early w a)(hT:Aj w)
include hX hxM hx16 hR hlen tY hPow Fq OA OB hMl hE hT in
theorem QN:Calls Tryz.prog 34 #[.pointer (some ⟨xb,0,none⟩)] w λq w'=>OV B w xb M l q w':=by
 have hb0:=(aA w.heap.size w).alloc (ak _) (.cells x8.toArray 55);have hx0:qf (w.alloc (.cells x8.toArray 55)) w.heap.size x8 55:=qf.made w _ _;have hxl:=qf.lt hX;have hsz2:1<w.heap.size:=cell_lt hT
 have h16:5<=w.heap.size:=by
  cases hR with
  |live vC vT h hm=>have:=h.lt.1;omega
  |dead h hm=>have:=OB _ hm;have:=hMl _ hm;omega
 have hX0:zh (w.alloc (.cells x8.toArray 55)) xb (some ⟨xb,0,none⟩) (some ⟨rb,0,none⟩):=qf.later hX (S:=λ_=>False) (.of_below hb0) hxl id;have KE:=ah4 B rb l M _ (hR.below hb0) hlen (tY.below hb0 ae) (hPow.belows hb0 h16) Fq OA a (hE.belows hb0);have KC:=N8 xb rb _ hX0;have hT0:Aj (w.alloc (.cells x8.toArray 55)):=hT.below hb0 hsz2;have hnb:¬M w.heap.size:=λh=>by have:=hMl _ h;omega
 unfold x8 xB at hb0 hx0 KE KC hX0 hT0;unfold H9 at KE;unfold OV;clear hR tY hPow hX hT hE;cases hpe:qP l with
 |error e=>
  rw[hpe]at KE;simp only at KE⊢;go_enter Tryz.func34,Tryz.ntmps34
  go_upto_region 1 with(fail)
  generalize hw0:w.alloc _=w0 at hb0 hx0 KE KC hX0 hT0⊢;clear hw0;have hsz0:w.heap.size<w0.heap.size:=hx0.lt;have c1:=qf.cell hX0 (i:=1) rfl
  go_upto_region 4 with(first|(go_at_call 56;(with_reducible refine KC.mono ?_);rintro q w1 ⟨rfl,hw1⟩;obtain rfl:=hw1.symm)|(go_at_call 59;(with_reducible refine KE.mono ?_);rintro q w2 ⟨g1,v,d,hd,rfl,g2⟩;unfold Bj xB;obtain⟨ty,x,rfl⟩:=g2.iface))
  have hb3:=(aA w2.heap.size w2).alloc (ak _) (.cells ([.int .i64 0,.int .i64 0,.int .i64 0,.int .i64 0,.slice none 0 0,.slice none 0 0,.slice none 0 0]:List Value).toArray 55);have hs3:qf (w2.alloc (.cells ([.int .i64 0,.int .i64 0,.int .i64 0,.int .i64 0,.slice none 0 0,.slice none 0 0,.slice none 0 0]:List Value).toArray 55)) w2.heap.size [.int .i64 0,.int .i64 0,.int .i64 0,.int .i64 0,.slice none 0 0,.slice none 0 0,.slice none 0 0] 55:=qf.made w2 _ _;generalize hw3:w2.alloc _=w3 at hb3 hs3⊢;clear hw3;have hx2:=hx0.later g1 hsz0 hnb;have hx3:=hx2.later (S:=λ_=>False) (.of_below hb3) hx2.lt id;have hX2:zh w2 xb _ _:=qf.later hX0 g1 (qf.lt hX0) hxM;have hX3:zh w3 xb _ _:=qf.later hX2 (S:=λ_=>False) (.of_below hb3) (qf.lt hX2) id;have hT2:Aj w2:=(g1.cell (p:=⟨1,0,none⟩) oQ (λx=>aoO)).trans hT0;have hT3:Aj w3:=hT2.below hb3 pI;have hC3:=g2.under hb3;have hB3:But w.heap.size M w w3:=uU ((But.of_below hb0).step g1 (λ_ _ x=>x)) hb3;have d1:=qf.cell hX3 (i:=1) rfl;have f1:=qf.frozen hX3 1
  go_upto_region 5 with(fail)
  have hX4:zh (w3.setCell ⟨xb,1,none⟩ (.pointer none)) xb (some ⟨xb,0,none⟩) none:=qf.set hX3 1 (.pointer none);have hB4:But w3.heap.size (· =xb) w3 (w3.setCell ⟨xb,1,none⟩ (.pointer none)):=(But.refl w3.heap.size (· =xb) w3).setCell (p:=⟨xb,1,none⟩) (.inr rfl) (.pointer none);clear d1 f1 c1;generalize w3.setCell ⟨xb,1,none⟩ (.pointer none)=w4 at hX4 hB4⊢;have hx4:=hx3.later hB4 hx3.lt ae;have hs4:=hs3.later hB4 hs3.lt pI;have hT4:Aj w4:=(hB4.cell (p:=⟨1,0,none⟩) apV (by show¬1=xb;omega)).trans hT3;have KA:=Ea d hd _ e.1 e.2 w4 (hC3.other hX3 au au hB4) hT4
  go_upto_region 6 with(first|(go_at_call 20;(with_reducible refine KA.mono ?_);rintro q w5 ⟨rfl,g5⟩))
  have hx5:=hx4.later (S:=λ_=>False) (.of_below g5) hx4.lt id;have hs5:=hs4.later (S:=λ_=>False) (.of_below g5) hs4.lt id;have hX5:zh w5 xb _ _:=qf.later hX4 (S:=λ_=>False) (.of_below g5) (qf.lt hX4) id;have hB5:But w.heap.size (λk=>M k\/k=xb) w w5:=uU ((hB3.mono (ak _) (λ_ x=>.inl x)).step hB4 (λ_ _ x=>.inr x)) g5;have c0:=hx5.cell (i:=0) rfl;have c1:=hx5.cell (i:=1) rfl;have c2:=hx5.cell (i:=2) rfl;have c3:=hx5.cell (i:=3) rfl;have c4:=hx5.cell (i:=4) rfl;have c5:=hx5.cell (i:=5) rfl;have c6:=hx5.cell (i:=6) rfl;have f0:=hx5.frozen;have d0:=hs5.cell (i:=0) rfl;have d1:=hs5.cell (i:=1) rfl;have d2:=hs5.cell (i:=2) rfl;have d3:=hs5.cell (i:=3) rfl;have d4:=hs5.cell (i:=4) rfl;have d5:=hs5.cell (i:=5) rfl;have d6:=hs5.cell (i:=6) rfl;go_wp2;obtain⟨hF,hG⟩:=aav (b0:=.int .i64 0) (b1:=.int .i64 0) (b2:=.int .i64 0) (b3:=.int .i64 0) (b4:=.slice none 0 0) (b5:=.slice none 0 0) (b6:=.slice none 0 0) hx5;have hX6:zh _ xb (some ⟨xb,0,none⟩) none:=qf.later hX5 hG (qf.lt hX5) ae;refine fU (zf (p:=2) (u:=3) (t:=4) rfl _ _ w.heap.size 55 _ (0,0) _ ax hF Tryz.underlying55 rfl ag) rfl ?_;exact⟨hB5.step hG (λk hk e=>ae),hX6,rfl⟩
 |ok sh=>
  rw[hpe]at KE;simp only at KE⊢;go_enter Tryz.func34,Tryz.ntmps34
  go_upto_region 1 with(fail)
  generalize hw0:w.alloc _=w0 at hb0 hx0 KE KC hX0 hT0⊢;clear hw0;have hsz0:w.heap.size<w0.heap.size:=hx0.lt;have c1:=qf.cell hX0 (i:=1) rfl
  go_upto_region 4 with(first|(go_at_call 56;(with_reducible refine KC.mono ?_);rintro q w1 ⟨rfl,hw1⟩;obtain rfl:=hw1.symm)|(go_at_call 59;(with_reducible refine KE.mono ?_);rintro q w2 ⟨g1,vN,vS,vC,rfl,n1,n2,n3⟩;unfold xB;obtain⟨bn,cn,rfl⟩:=sW n1;obtain⟨bz,cz,rfl⟩:=sW n2;obtain⟨bc,cc,rfl⟩:=sW n3))
  have hb3:=(aA w2.heap.size w2).alloc (ak _) (.cells ([.int .i64 (sh.k:Int),.int .i64 (sh.n:Int),.int .i64 (sh.i:Int),.int .i64 (sh.c:Int),.slice bn sh.names.length cn,.slice bz sh.sizes.length cz,.slice bc sh.qx.length cc]:List Value).toArray 55);have hs3:qf (w2.alloc (.cells ([.int .i64 (sh.k:Int),.int .i64 (sh.n:Int),.int .i64 (sh.i:Int),.int .i64 (sh.c:Int),.slice bn sh.names.length cn,.slice bz sh.sizes.length cz,.slice bc sh.qx.length cc]:List Value).toArray 55)) w2.heap.size [.int .i64 (sh.k:Int),.int .i64 (sh.n:Int),.int .i64 (sh.i:Int),.int .i64 (sh.c:Int),.slice bn sh.names.length cn,.slice bz sh.sizes.length cz,.slice bc sh.qx.length cc] 55:=qf.made w2 _ _;generalize hw3:w2.alloc _=w3 at hb3 hs3⊢;clear hw3;have hx2:=hx0.later g1 hsz0 hnb;have hx3:=hx2.later (S:=λ_=>False) (.of_below hb3) hx2.lt id;have hX2:zh w2 xb _ _:=qf.later hX0 g1 (qf.lt hX0) hxM;have hX3:zh w3 xb _ _:=qf.later hX2 (S:=λ_=>False) (.of_below hb3) (qf.lt hX2) id;have hT2:Aj w2:=(g1.cell (p:=⟨1,0,none⟩) oQ (λx=>aoO)).trans hT0;have hT3:Aj w3:=hT2.below hb3 pI;have o1:=λ{e n:Nat}{v:Value}{xs:List Value}(h:w2.ownsRow B e 1 v n xs)=>uz (w':=w3) h (λg hg=>hb3.block g (h.lt g hg).2);have hB3:But w.heap.size M w w3:=uU ((But.of_below hb0).step g1 (λ_ _ x=>x)) hb3;have d1:=qf.cell hX3 (i:=1) rfl;have f1:=qf.frozen hX3 1
  go_upto_region 5 with(fail)
  have hX4:zh (w3.setCell ⟨xb,1,none⟩ (.pointer none)) xb (some ⟨xb,0,none⟩) none:=qf.set hX3 1 (.pointer none);have hB4:But w3.heap.size (· =xb) w3 (w3.setCell ⟨xb,1,none⟩ (.pointer none)):=(But.refl w3.heap.size (· =xb) w3).setCell (p:=⟨xb,1,none⟩) (.inr rfl) (.pointer none);clear d1 f1 c1;generalize w3.setCell ⟨xb,1,none⟩ (.pointer none)=w4 at hX4 hB4⊢;have hx4:=hx3.later hB4 hx3.lt ae;have hs4:=hs3.later hB4 hs3.lt pI;have hT4:Aj w4:=(hB4.cell (p:=⟨1,0,none⟩) apV (by show¬1=xb;omega)).trans hT3;have KA:=IX w4
  go_upto_region 6 with(first|(go_at_call 20;(with_reducible refine KA.mono ?_);rintro q w5 ⟨rfl,g5⟩))
  have hx5:=hx4.later (S:=λ_=>False) (.of_below g5) hx4.lt id;have hs5:=hs4.later (S:=λ_=>False) (.of_below g5) hs4.lt id;have hX5:zh w5 xb _ _:=qf.later hX4 (S:=λ_=>False) (.of_below g5) (qf.lt hX4) id;have hB5:But w.heap.size (λk=>M k\/k=xb) w w5:=uU ((hB3.mono (ak _) (λ_ x=>.inl x)).step hB4 (λ_ _ x=>.inr x)) g5;have c0:=hx5.cell (i:=0) rfl;have c1:=hx5.cell (i:=1) rfl;have c2:=hx5.cell (i:=2) rfl;have c3:=hx5.cell (i:=3) rfl;have c4:=hx5.cell (i:=4) rfl;have c5:=hx5.cell (i:=5) rfl;have c6:=hx5.cell (i:=6) rfl;have f0:=hx5.frozen;have d0:=hs5.cell (i:=0) rfl;have d1:=hs5.cell (i:=1) rfl;have d2:=hs5.cell (i:=2) rfl;have d3:=hs5.cell (i:=3) rfl;have d4:=hs5.cell (i:=4) rfl;have d5:=hs5.cell (i:=5) rfl;have d6:=hs5.cell (i:=6) rfl;go_wp2;obtain⟨hF,hG⟩:=aav (b0:=.int .i64 (sh.k:Int)) (b1:=.int .i64 (sh.n:Int)) (b2:=.int .i64 (sh.i:Int)) (b3:=.int .i64 (sh.c:Int)) (b4:=.slice bn sh.names.length cn) (b5:=.slice bz sh.sizes.length cz) (b6:=.slice bc sh.qx.length cc) hx5;have hX6:zh _ xb (some ⟨xb,0,none⟩) none:=qf.later hX5 hG (qf.lt hX5) ae;refine fU (zf (p:=2) (u:=3) (t:=4) rfl _ _ w.heap.size 55 _ (0,0) _ ax hF Tryz.underlying55 rfl ag) rfl ?_
  have o2:∀{e n:Nat}{v:Value}{xs:List Value},w2.ownsRow B e 1 v n xs->e≠124->e≠55->World.ownsRow _ B e 1 v n xs:=λh h1 h2=>xg hx5 hG (by
   have z1:=xg hX3 hB4 (o1 h) h1;exact uz z1 (λg hg=>g5.block g (z1.lt g hg).2)) h2
  exact⟨hB5.step hG (λk hk e=>ae),hX6,_,_,_,rfl,o2 n1 au au,o2 n2 au au,o2 n3 au au⟩
end
section
variable (p:List UInt8)(vp:Value)(w:World)(hP:Pt w (λ_=>False) vp p)(hlen:p.length<=4611686018427387904)(tY:Tab w)(hPow:Pow w)(h16:5<=w.heap.size)(a:Addr)(hE:Early w a)(hT:Aj w)
include hP hlen tY hPow h16 hE hT in
theorem YR:Calls Tryz.prog 18 #[vp] w λq w'=>Lm p w q w':=by
 have hb0:=(aA w.heap.size w).alloc (ak _) (.cells x8.toArray 55);have hx0:qf (w.alloc (.cells x8.toArray 55)) w.heap.size x8 55:=qf.made w _ _;unfold x8 xB at hb0 hx0;unfold Lm;cases hpe:qP p with
 |error e=>
  simp only;go_enter Tryz.func18,Tryz.ntmps18
  go_upto_region 1 with(fail)
  generalize hw0:w.alloc _=w0 at hb0 hx0⊢;clear hw0;have hT0:=tY.below hb0 ae;have hP0:=hPow.belows hb0 h16;have hE0:=hE.belows hb0;have hR0:Aj w0:=hT.below hb0 ae;have agi:Pt w0 (λ_=>False) vp p:=hP.later (S:=λ_=>False) (.of_below hb0) (λ_ x=>x) (λ_ _ x=>x);have KN:=IM w0;have hs0:w.heap.size<w0.heap.size:=hx0.lt
  go_upto_region 2 with(first|(go_at_call 32;(with_reducible refine KN.mono ?_);rintro q w1 ⟨xb,rb,rfl,n1,n2,n3,n4,n5⟩))
  have hx1:=hx0.later (S:=λ_=>False) (.of_below n5) hx0.lt id;have hn5:=n5.size
  have agj:Pt w1 (Mine rb (.slice none 0 0) (.slice none 0 0)) vp p:=agi.later (S:=λ_=>False) (.of_below n5) (λ_ x=>x) (λk hk x=>by
   rcases x with h|h|h
   .omega
   .cases h
   .cases h)
  have hMr:∀k,Mine rb (.slice none 0 0) (.slice none 0 0) k->k=rb:=λk x=>by
   rcases x with h|h|h
   .exact h
   .cases h
   .cases h
  have hxr:xb≠rb:=by exact arc
  have hlt1:=n2.lt;have KF:=Ym w0.heap.size xb rb [] p (Mine rb (.slice none 0 0) (.slice none 0 0)) vp w1 n1 (λh=>hxr (hMr _ h)) (.live _ _ n2 (λ_ h=>h)) agj an6 (hT0.below n5 ae) (hP0.belows n5 ae) ae n3 (λk h=>lJ) a (hE0.belows n5) (hR0.below n5 ae);rw[bf]at KF;unfold KZ at KF
  go_upto_region 3 with(first|(go_at_call 33;(with_reducible refine KF.mono ?_);rintro q w2 ⟨rfl,g1,⟨M',g2,g3⟩,g4⟩))
  have OB:∀k,M' k->5<=k:=λk h=>by
   rcases aT k w1.heap.size with q|q
   .have:=hMr k ((g3 k h).2 q);omega
   .omega
  have akl:=qf.lt n1;have hxM:¬M' xb:=λh=>hxr (hMr _ ((g3 xb h).2 akl))
  have hbM:¬M' w.heap.size:=λh=>apY
  have hx2:=hx1.later g1 hx1.lt (λh=>by have:=hMr _ h;omega);have hnM:∀k,k<5->¬Mine rb (.slice none 0 0) (.slice none 0 0) k:=λk hk h=>lJ
  have KI:=QN w0.heap.size xb rb p M' w2 g4 hxM ae g2 hlen ((hT0.below n5 ae).but g1 ae (hnM 2 ae)) ((hP0.belows n5 ae).but g1 (λk hk=>⟨ae,hnM k hk⟩)) ae n3 OB (λk h=>(g3 k h).1) a ((hE0.belows n5).but g1 ae (hnM 0 ae)) ((g1.cell (p:=⟨1,0,none⟩) oQ (hnM 1 ae)).trans (hR0.below n5 ae));unfold OV at KI;rw[hpe]at KI;simp only at KI;have hB2:But w.heap.size (λ_=>False) w w2:=(((But.of_below (hb0.trans (n5.mono ae))):But w.heap.size (λ_=>False) w w1)).step g1 (λk hk h=>lJ);have hxw:¬w.heap.size=xb:=ae;clear KF KN hT0 hP0 hE0 hR0 agi agj n2
  go_wp2_with(first|(go_at_call 34;(with_reducible refine KI.mono ?_);rintro q w3 ⟨k1,k2,rfl⟩;unfold Bj xB;have hx3:=hx2.later k1 hx2.lt (λx=>x.elim hbM hxw);have c0:=hx3.cell (i:=0) rfl;have c1:=hx3.cell (i:=1) rfl;have c2:=hx3.cell (i:=2) rfl;have c3:=hx3.cell (i:=3) rfl;have c4:=hx3.cell (i:=4) rfl;have c5:=hx3.cell (i:=5) rfl;have c6:=hx3.cell (i:=6) rfl;have f0:=hx3.frozen))
  obtain⟨hF,hG⟩:=aav (b0:=.int .i64 0) (b1:=.int .i64 0) (b2:=.int .i64 0) (b3:=.int .i64 0) (b4:=.slice none 0 0) (b5:=.slice none 0 0) (b6:=.slice none 0 0) hx3
  have hB3:But w.heap.size (λ_=>False) w w3:=hB2.step k1 (λk hk h=>by
   rcases h with h|h
   .have:=hMr k ((g3 k h).2 ae);omega
   .omega)
  have hBB:=(hB3.step hG (λk hk e=>ae)).below (λ_ _=>id);refine fU (zf (p:=2) (u:=3) (t:=4) rfl _ _ w.heap.size 55 _ (0,0) _ ax hF Tryz.underlying55 rfl ag) rfl ?_;exact⟨hBB,rfl⟩
 |ok sh=>
  simp only;go_enter Tryz.func18,Tryz.ntmps18
  go_upto_region 1 with(fail)
  generalize hw0:w.alloc _=w0 at hb0 hx0⊢;clear hw0;have hT0:=tY.below hb0 ae;have hP0:=hPow.belows hb0 h16;have hE0:=hE.belows hb0;have hR0:Aj w0:=hT.below hb0 ae;have agi:Pt w0 (λ_=>False) vp p:=hP.later (S:=λ_=>False) (.of_below hb0) (λ_ x=>x) (λ_ _ x=>x);have KN:=IM w0;have hs0:w.heap.size<w0.heap.size:=hx0.lt
  go_upto_region 2 with(first|(go_at_call 32;(with_reducible refine KN.mono ?_);rintro q w1 ⟨xb,rb,rfl,n1,n2,n3,n4,n5⟩))
  have hx1:=hx0.later (S:=λ_=>False) (.of_below n5) hx0.lt id;have hn5:=n5.size
  have agj:Pt w1 (Mine rb (.slice none 0 0) (.slice none 0 0)) vp p:=agi.later (S:=λ_=>False) (.of_below n5) (λ_ x=>x) (λk hk x=>by
   rcases x with h|h|h
   .omega
   .cases h
   .cases h)
  have hMr:∀k,Mine rb (.slice none 0 0) (.slice none 0 0) k->k=rb:=λk x=>by
   rcases x with h|h|h
   .exact h
   .cases h
   .cases h
  have hxr:xb≠rb:=by exact arc
  have hlt1:=n2.lt;have KF:=Ym w0.heap.size xb rb [] p (Mine rb (.slice none 0 0) (.slice none 0 0)) vp w1 n1 (λh=>hxr (hMr _ h)) (.live _ _ n2 (λ_ h=>h)) agj an6 (hT0.below n5 ae) (hP0.belows n5 ae) ae n3 (λk h=>lJ) a (hE0.belows n5) (hR0.below n5 ae);rw[bf]at KF;unfold KZ at KF
  go_upto_region 3 with(first|(go_at_call 33;(with_reducible refine KF.mono ?_);rintro q w2 ⟨rfl,g1,⟨M',g2,g3⟩,g4⟩))
  have OB:∀k,M' k->5<=k:=λk h=>by
   rcases aT k w1.heap.size with q|q
   .have:=hMr k ((g3 k h).2 q);omega
   .omega
  have akl:=qf.lt n1;have hxM:¬M' xb:=λh=>hxr (hMr _ ((g3 xb h).2 akl))
  have hbM:¬M' w.heap.size:=λh=>apY
  have hx2:=hx1.later g1 hx1.lt (λh=>by have:=hMr _ h;omega);have hnM:∀k,k<5->¬Mine rb (.slice none 0 0) (.slice none 0 0) k:=λk hk h=>lJ
  have KI:=QN w0.heap.size xb rb p M' w2 g4 hxM ae g2 hlen ((hT0.below n5 ae).but g1 ae (hnM 2 ae)) ((hP0.belows n5 ae).but g1 (λk hk=>⟨ae,hnM k hk⟩)) ae n3 OB (λk h=>(g3 k h).1) a ((hE0.belows n5).but g1 ae (hnM 0 ae)) ((g1.cell (p:=⟨1,0,none⟩) oQ (hnM 1 ae)).trans (hR0.below n5 ae));unfold OV at KI;rw[hpe]at KI;simp only at KI;have hB2:But w.heap.size (λ_=>False) w w2:=(((But.of_below (hb0.trans (n5.mono ae))):But w.heap.size (λ_=>False) w w1)).step g1 (λk hk h=>lJ);have hxw:¬w.heap.size=xb:=ae;clear KF KN hT0 hP0 hE0 hR0 agi agj n2
  go_wp2_with(first|(go_at_call 34;(with_reducible refine KI.mono ?_);rintro q w3 ⟨k1,k2,vN,vS,vC,rfl,o1,o2,o3⟩;unfold xB;obtain⟨bn,cn,rfl⟩:=sW o1;obtain⟨bz,cz,rfl⟩:=sW o2;obtain⟨bc,cc,rfl⟩:=sW o3;have hx3:=hx2.later k1 hx2.lt (λx=>x.elim hbM hxw);have c0:=hx3.cell (i:=0) rfl;have c1:=hx3.cell (i:=1) rfl;have c2:=hx3.cell (i:=2) rfl;have c3:=hx3.cell (i:=3) rfl;have c4:=hx3.cell (i:=4) rfl;have c5:=hx3.cell (i:=5) rfl;have c6:=hx3.cell (i:=6) rfl;have f0:=hx3.frozen))
  obtain⟨hF,hG⟩:=aav (b0:=.int .i64 (sh.k:Int)) (b1:=.int .i64 (sh.n:Int)) (b2:=.int .i64 (sh.i:Int)) (b3:=.int .i64 (sh.c:Int)) (b4:=.slice bn sh.names.length cn) (b5:=.slice bz sh.sizes.length cz) (b6:=.slice bc sh.qx.length cc) hx3
  have hB3:But w.heap.size (λ_=>False) w w3:=hB2.step k1 (λk hk h=>by
   rcases h with h|h
   .have:=hMr k ((g3 k h).2 ae);omega
   .omega)
  have hBB:=(hB3.step hG (λk hk e=>ae)).below (λ_ _=>id);refine fU (zf (p:=2) (u:=3) (t:=4) rfl _ _ w.heap.size 55 _ (0,0) _ ax hF Tryz.underlying55 rfl ag) rfl ?_;exact⟨hBB,_,_,_,rfl,zJ (xg hx3 hG o1 au) ae,zJ (xg hx3 hG o2 au) ae,zJ (xg hx3 hG o3 au) ae⟩
end
theorem Lies.str{w:World}{v:Value}{l:List UInt8}(h:Lies w v (rF l)):(convert 34 9 v).run Tryz.prog w=.ok (.string ⟨l.toArray⟩) w:=by
 obtain⟨ba,cap,rfl,hcap,hc⟩:=h;rw[rH]at hcap⊢;by_cases h0:l=[]
 .subst h0;show(convert 34 9 (.slice ba 0 cap)).run Tryz.prog w=_;rw[run_convert_bytes_string w 34 9 5 ba 0 cap Tryz.underlying34 Tryz.underlying5 Tryz.underlying9];cases ba<;>rfl
 .have hp:0<l.length:=kC.2 h0;obtain⟨b,off,rfl,_⟩:=hc 0 _ (vJ hp);refine run_convert_bytes_back w 34 9 5 ⟨b,off,none⟩ cap l Tryz.underlying34 Tryz.underlying5 Tryz.underlying9 (λj hj=>?_);obtain⟨b',off',e,h2⟩:=hc j _ (vJ hj);cases e;rw[Em,h2];simp[sH,aY hj]
structure Both(w:World)(s:vH)(vN vS vC:Value):Prop where
 n:Lies w vN (AB s.names)
 z:Lies w vS (yh s.sizes)
 c:Lies w vC (rF s.qx)
theorem WE(a b:List UInt8)(va vb:Value)(w:World)(ha:Lies w va (rF a))(hb:Lies w vb (rF b)):
  Calls Tryz.prog 68 #[va,vb] w λr w'=>r=.returned (.bool (a==b))/\w'=w:=by
 have s1:=ha.str;have s2:=hb.str;obtain⟨pa,ca,rfl⟩:=ha.len;obtain⟨pb,cb,rfl⟩:=hb.len;go_enter Tryz.func68,Tryz.ntmps68;exact aqd
theorem clone_any(l:List UInt8)(v:Value)(w:World)(h:Lies w v (rF l))(hl:l.length<=1048576):
  Calls Tryz.prog 69 #[v] w λr w'=>∃v',r=.returned v'/\w'.ownsRow w.heap.size 5 1 v' l.length (rF l)/\Below w.heap.size w w':=by
 obtain⟨i0,hi0,hz0,hz1,hz2⟩:=bg Au;obtain⟨ba,cap,rfl,hcap,hc⟩:=h;have el:(rF l).length=l.length:=dY;have q22:∀(w:World)(a:Option Addr)(n c n' c':Nat),(binOp .eql 34 (.slice a n c) (.slice none n' c')).run Tryz.prog w=.ok (.bool a.isNone) w:=λw a n c n' c'=>Lib.run_eql_slice_nil w _ _ a n c n' c' Tryz.underlying34
 rw[el]at hcap⊢;cases ba with
 |none=>
  obtain rfl:l=[]:=by
   rcases l with _|⟨x,l⟩
   .rfl
   .obtain⟨b,off,e,_⟩:=hc 0 _ rfl;cases e
  go_enter Tryz.func69,Tryz.ntmps69;go_wp2;go_ret;exact⟨_,rfl,bT _ _ _ _,aA _ _⟩
 |some ad=>
  have b1:Below w.heap.size w (w.alloc (.cells #[] 5)):=(aA _ _).alloc (ak _) _;have Ar:(w.alloc (.cells #[] 5)).ownsRow w.heap.size 5 1 (.slice (some ⟨w.heap.size,0,none⟩) 0 0) 0 []:=⟨rfl,.inr ⟨w.heap.size,0,#[],rfl,ak _,dM _ _,ak _,bH,rfl,rfl⟩⟩
  have hcells:∀j u,(rF l)[j]?=some u->(w.alloc (.cells #[] 5)).cell? (ad.add j)=some u:=λj u hj=>by obtain⟨b,off,e,hcc⟩:=hc j u hj;cases e;rw[Addr.add_mid];exact(b1.cell (p:=⟨b,off+j,none⟩) (cell_lt hcc)).trans hcc
  have h1:∀u∈rF l,u.oneCell'=true:=λu hu=>by obtain⟨x,_,rfl⟩:=eX.1 hu;rfl
  generalize hw1:w.alloc (.cells #[] 5)=w1 at*;go_enter Tryz.func69,Tryz.ntmps69
  go_wp2_with(at_builtin;refine dF _ rfl _ _ 34 rfl w.heap.size 5 i0 (.int .u8 0) 1 1 Tryz.underlying34 hi0 hz0 hz1 hz2 rfl au _ _ _ rfl Ar ad l.length cap (rF l) rfl dY hcells h1 bH ae b1.size ?_;intro v' w5 hown5 hgrow hnil)
  go_wp2;go_ret;exact⟨v',rfl,by simpa using hown5,b1.grown hgrow b1.size (λk hk=>by have e:w.heap.size=k:=d_ hk;omega)⟩
end Go.Proofs.Y
namespace Go.Proofs
open Go.Shelf
def Tryz.lays14_ren:Go.Shelf.Ren:=⟨fun|14=>66|15=>107|n=>n,fun|26=>28|22=>34|3=>3|4=>4|0=>0|9=>9|20=>20|5=>5|n=>n,fun|n=>n⟩
theorem Tryz.lays14:Go.Proofs.SlLaysJ.n14 Tryz.prog Tryz.lays14_ren:={
 mixed:=ag
 f14:=Tryz.func66.trans (aP some ag)
 f15:=Tryz.func107.trans (aP some ag)
 t0:=Tryz.underlying0
 a0:=Tryz.isAgg0
 z0:=Tryz.sizeOf0
 v0:=Tryz.zeroValue0
 t3:=Tryz.underlying3
 a3:=Tryz.isAgg3
 z3:=Tryz.sizeOf3
 v3:=Tryz.zeroValue3
 t4:=Tryz.underlying4
 a4:=Tryz.isAgg4
 z4:=Tryz.sizeOf4
 v4:=Tryz.zeroValue4
 t9:=Tryz.underlying9
 a9:=Tryz.isAgg9
 z9:=Tryz.sizeOf9
 v9:=Tryz.zeroValue9
 t20:=Tryz.underlying20
 a20:=Tryz.isAgg20
 z20:=Tryz.sizeOf20
 v20:=Tryz.zeroValue20
 t22:=Tryz.underlying34
 a22:=Tryz.isAgg34
 z22:=Tryz.sizeOf34
 v22:=Tryz.zeroValue34
 t26:=Tryz.underlying28
 a26:=Tryz.isAgg28
 z26:=Tryz.sizeOf28
 v26:=Tryz.zeroValue28
 t5:=Tryz.underlying5
 z5:=Tryz.sizeOf5
 i5:=ag}
