import Derived.Test.YtnbflnamlpodcaaGreatDoorPrV
import Derived.Test.YtnbflnamlpodcaaGreatDoorErD
import Derived.Shelf.Bytes.SlJoin
set_option maxHeartbeats 2000000
set_option maxRecDepth 100000
namespace Go.Proofs.Y
open Go.Proofs.Tryz
open Go.RowKit Go.Deep
theorem aj_(rb:Nat)(l:List UInt8)(w:World)(hD:akV w rb l):Calls prog 59 #[.pointer (some ⟨rb,0,none⟩)] w λq w'=>Ky 0 w l (λ_=>False) q w':=by
 have xq:=(aA w.heap.size w).alloc (ak _) (.cells zy.toArray 55);have Ac:qf (w.alloc (.cells zy.toArray 55)) w.heap.size zy 55:=qf.made w _ _
 have hD0:akV (w.alloc (.cells zy.toArray 55)) rb l:=by obtain⟨v,d,e,hd,hR,hC,h4,hE⟩:=hD;exact⟨v,d,e,hd,qf.later hR (S:=λ_=>False) (.qm xq) (qf.lt hR) id,hC.under xq,h4,hE⟩
 have K:=Yi rb l (.slice none 0 0) _ hD0;unfold Ky;obtain⟨v,d,e,hd,hR,hC,h4,hE⟩:=hD0;have DW:qP l=.error e:=by have:=hE [];rwa[dD]at this
 rw[DW]
 have K2:Calls prog 57 #[.pointer (some ⟨rb,0,none⟩),.slice none 0 0] (w.alloc (.cells zy.toArray 55)) λq w'=>w'=w.alloc (.cells zy.toArray 55)/\∃v d,d<=2/\q=.returned v/\sG w' d v e.1 e.2:=by refine K.mono ?_;rintro q w' ⟨rfl,v',d',e',k1,k2,k3,k4,k5⟩;have:=k5 [];rw[dD,DW]at this;cases this;exact⟨rfl,v',d',k1,k2,k3⟩
 clear K hD DW hE hR hC hd;unfold zy yQ at xq Ac K2;go_enter func59,ntmps59
 go_upto_region 1 with(fail)
 generalize L9:w.alloc _=w0 at xq Ac K2⊢;clear L9;have c0:=Ac.cell (i:=0) rfl;have c1:=Ac.cell (i:=1) rfl;have c2:=Ac.cell (i:=2) rfl;have c3:=Ac.cell (i:=3) rfl;have c4:=Ac.cell (i:=4) rfl;have c5:=Ac.cell (i:=5) rfl;have c6:=Ac.cell (i:=6) rfl;have f0:=Ac.frozen
 go_wp2_with(first|(go_at_call 57;with_reducible refine K2.mono ?_;rintro q w1 ⟨BB,v,d,hd,rfl,g2⟩;obtain rfl:=BB.symm;obtain⟨ty,x,rfl⟩:=g2.iface))
 obtain⟨hF,hG⟩:=aed (b0:=.int .i64 0) (b1:=.int .i64 0) (b2:=.int .i64 0) (b3:=.int .i64 0) (b4:=.slice none 0 0) (b5:=.slice none 0 0) (b6:=.slice none 0 0) Ac;have hC:=g2.other Ac au au hG;refine gu (Ew (p:=2) (u:=3) rfl _ _ w.heap.size 55 _ (0,0) _ ax hF underlying55 rfl ag) rfl ?_;exact⟨(ru.qm xq).step hG (λk hk e=>ae),_,d,hd,rfl,hC⟩
def AQ(w:World)(xb:Nat)(m r:Option Addr):Prop:=qf w xb [.pointer m,.pointer r] 124
theorem amz:∃j,prog.info? 124=some j:=avb.1 ag
theorem aka(a:Addr)(w:World):(binOp .neq 80 (.pointer (some a)) (.pointer (some a))).run prog w=.ok (.bool false) w:=by obtain⟨j,hj⟩:=amz;exact Lib.run_neq_ptr_same w a underlying80 hj
theorem Ru(xb rb:Nat)(w:World)(h:AQ w xb (some ⟨xb,0,none⟩) (some ⟨rb,0,none⟩)):Calls prog 56 #[.pointer (some ⟨xb,0,none⟩)] w λq w'=>q=.returned (.bool false)/\w'=w:=by have c0:=qf.cell h (i:=0) rfl;have c1:=qf.cell h (i:=1) rfl;have e1:=aka ⟨xb,0,none⟩;go_enter func56,ntmps56;exact awx
def St.zero:St:=⟨0,0,0,0,[],[],[],0,0,0,0,0⟩
theorem ag2:JO St.zero [] []:=⟨λx=>.head rfl rfl rfl,⟨by simp[St.zero],λi hi=>by simp at hi⟩,⟨au,au,au,au,au,au⟩,⟨λ_=>rfl,(λh=>absurd h au),(λh=>absurd h au)⟩,λ_=>ai,λ_=>rfl⟩
theorem LY(w:World):Calls prog 32 #[] w λq w'=>∃xb rb,q=.returned (.pointer (some ⟨xb,0,none⟩))/\AQ w' xb (some ⟨xb,0,none⟩) (some ⟨rb,0,none⟩)/\Live w.heap.size w' rb [] (.slice none 0 0) (.slice none 0 0)/\w.heap.size<=rb/\w.heap.size<=xb/\Below w.heap.size w w':=by
 go_enter func32,ntmps32;go_wp2;go_ret;have t_:=(aA w.heap.size w).alloc (ak _) (.cells (St.zero.rd (.slice none 0 0) (.slice none 0 0) (.slice none 0 0) (.slice none 0 0) .nilIface).cells.toArray 122);have RJ:xR (w.alloc (.cells (St.zero.rd (.slice none 0 0) (.slice none 0 0) (.slice none 0 0) (.slice none 0 0) .nilIface).cells.toArray 122)) w.heap.size (St.zero.rd (.slice none 0 0) (.slice none 0 0) (.slice none 0 0) (.slice none 0 0) .nilIface):=qf.made w _ _;have x9:(w.alloc (.cells (St.zero.rd (.slice none 0 0) (.slice none 0 0) (.slice none 0 0) (.slice none 0 0) .nilIface).cells.toArray 122)).heap.size=w.heap.size+1:=ai
 have key:∀w1:World,Below w.heap.size w w1->xR w1 w.heap.size (St.zero.rd (.slice none 0 0) (.slice none 0 0) (.slice none 0 0) (.slice none 0 0) .nilIface)->w1.heap.size=w.heap.size+1->
   AQ (w1.alloc (.cells #[.pointer (some ⟨w.heap.size+1,0,none⟩),.pointer (some ⟨w.heap.size,0,none⟩)] 124)) (w.heap.size+1) (some ⟨w.heap.size+1,0,none⟩) (some ⟨w.heap.size,0,none⟩)/\Live w.heap.size (w1.alloc (.cells #[.pointer (some ⟨w.heap.size+1,0,none⟩),.pointer (some ⟨w.heap.size,0,none⟩)] 124)) w.heap.size [] (.slice none 0 0) (.slice none 0 0)/\Below w.heap.size w (w1.alloc (.cells #[.pointer (some ⟨w.heap.size+1,0,none⟩),.pointer (some ⟨w.heap.size,0,none⟩)] 124)):=by
  intro w1 h1 h2 h3;have sZ:=(aA w1.heap.size w1).alloc (ak _) (.cells #[.pointer (some ⟨w.heap.size+1,0,none⟩),.pointer (some ⟨w.heap.size,0,none⟩)] 124);have hX:=qf.made w1 [.pointer (some ⟨w.heap.size+1,0,none⟩),.pointer (some ⟨w.heap.size,0,none⟩)] 124;rw[h3]at hX;refine⟨hX,⟨St.zero,[],.slice none 0 0,.slice none 0 0,⟨qf.later h2 (S:=λ_=>False) (.qm sZ) (qf.lt h2) id,dh _ _ _ _,dh _ _ _ _,dh _ _ _ _,dh _ _ _ _,(λg hg=>atQ),?_⟩,ag2,rfl⟩,h1.trans (sZ.mono h1.size)⟩;have:=sZ.size;omega
 obtain⟨k1,k2,k3⟩:=key _ t_ RJ x9;exact⟨w.heap.size+1,w.heap.size,rfl,k1,k2,ak _,ae,k3⟩
inductive RSt (B:Nat) (w:World) (rb:Nat) (l:List UInt8) (M:Nat->Prop):Prop
 |live (vC vT:Value) (h:Live B w rb l vC vT) (hM:∀k,qO rb vC vT k->M k)
 |dead (h:akV w rb l) (hM:M rb)
theorem RSt.below{B:Nat}{w w':World}{rb:Nat}{l:List UInt8}{M:Nat->Prop}(h:RSt B w rb l M)(hb:Below w.heap.size w w'):RSt B w' rb l M:=by
 cases h with
 |live vC vT h hm=>exact .live vC vT (h.below hb) hm
 |dead h hm=>
  obtain⟨v,d,e,hd,hR,hC,h4,hE⟩:=h;exact .dead ⟨v,d,e,hd,qf.later hR (S:=λ_=>False) (.qm hb) (qf.lt hR) id,hC.under hb,h4,hE⟩ hm
theorem Pt.less{w:World}{M M':Nat->Prop}{v:Value}{p:List UInt8}(h:Pt w M v p)(hM:∀k,M' k->M k):Pt w M' v p:=by
 rcases h with h|⟨ad,c,e,h1,h2,h3⟩
 .exact .inl h
 .exact .inr ⟨ad,c,e,h1,λx y=>h2 x (hM _ y),h3⟩
def ana(B:Nat)(w:World)(rb:Nat)(M:Nat->Prop)(L:List UInt8)(q:Ending)(w':World):Prop:=
 ru w.heap.size M w w'/\(∃M',RSt B w' rb L M'/\∀k,M' k->k<w'.heap.size/\(k<w.heap.size->M k))/\match qP L with
 | .error e=>∃v d,d<=2/\q=.returned v/\sG w' d v e.1 e.2
 | .ok _=>q=.returned .nilIface
section
variable (B rb:Nat)(l p:List UInt8)(M:Nat->Prop)(vp:Value)(w:World)(hR:RSt B w rb l M)(hP:Pt w M vp p)(hlen:l.length+p.length<=4611686018427387904)(uN:CQ w)(hPow:Pow w)(IA:5<=B)(SI:B<=rb)(a:Addr)(hE:wQ w a)
include hR hP hlen uN hPow IA SI hE in
theorem akX:Calls prog 57 #[.pointer (some ⟨rb,0,none⟩),vp] w λq w'=>ana B w rb M (l++p) q w':=by
 cases hR with
 |live vC vT h hm=>
  have Yq:rb<w.heap.size:=h.lt.2 _ (.inl rfl);refine(Yh B rb l p vC vT vp w h (hP.less hm) hlen uN hPow IA SI a hE).mono ?_;rintro q w' ⟨h1,h2⟩;refine⟨h1.mono (ak _) hm,?_⟩;have sub:∀{FT Dq:Value},Live B w' rb (l++p) FT Dq->(∀k,k<w.heap.size->qO rb FT Dq k->qO rb vC vT k)->∀k,qO rb FT Dq k->k<w'.heap.size/\(k<w.heap.size->M k):=λhl hs k hk=>⟨hl.lt.2 k hk,λq=>hm k (hs k q hk)⟩
  rcases h2 with⟨v,d,e,k1,k2,k3,k4,k5,k6⟩|⟨k0,s,vN,vS,FT,Dq,m1,m2,m3,m4,m5,m6⟩
  .rw[k4];refine⟨?_,v,d,k1,k2,k3⟩;by_cases q4:e.1=4
   .obtain⟨FT,Dq,n1,n2⟩:=k6 q4;exact⟨_,.live FT Dq n1 (λ_ h=>h),sub n1 n2⟩
   .exact⟨(· =rb),.dead (k5 q4) rfl,λk hk=>by subst hk;exact⟨aK Yq h1.size,λ_=>hm _ (.inl rfl)⟩⟩
  .rw[m5];have hlv:Live B w' rb (l++p) FT Dq:=⟨s,[],vN,vS,m1,m2,m4⟩;exact⟨⟨_,.live FT Dq hlv (λ_ h=>h),sub hlv m6⟩,k0⟩
 |dead h hm=>
  refine(Yi rb l vp w h).mono ?_;rintro q w' ⟨rfl,v,d,e,k1,k2,k3,k4,k5⟩;refine⟨ru.refl _ _ _,?_,?_⟩
  .obtain⟨v',d',e',j1,j2,j3,j4,j5⟩:=h;exact⟨(· =rb),.dead ⟨v',d',e',j1,j2,j3,j4,λx=>by rw[dU];exact j5 (p++x)⟩ rfl,λk hk=>by subst hk;exact⟨qf.lt j2,λ_=>hm⟩⟩
  .rw[k5 p];exact⟨v,d,k1,k2,k3⟩
end
theorem amA(B rb:Nat)(l:List UInt8)(M:Nat->Prop)(w:World)(hR:RSt B w rb l M)(hlen:l.length<=4611686018427387904)(uN:CQ w)(hPow:Pow w)(IA:5<=B)(SI:B<=rb)(a:Addr)(hE:wQ w a):
  Calls prog 59 #[.pointer (some ⟨rb,0,none⟩)] w λq w'=>Ky B w l M q w':=by
 cases hR with
 |live vC vT h hm=>
  refine(ajY B rb l vC vT w hlen uN hPow IA SI a hE h).mono ?_;rintro q w' ⟨h1,h2⟩;exact⟨h1.mono (ak _) hm,h2⟩
 |dead h hm=>
  refine(aj_ rb l w h).mono ?_;rintro q w' ⟨h1,h2⟩;refine⟨h1.mono (ak _) (λ_ x=>x.elim),?_⟩;obtain⟨v,d,e,hd,hR',hC,h4,hE'⟩:=h;have DW:qP l=.error e:=by have:=hE' [];rwa[dD]at this
  rw[DW]at h2⊢;exact h2
def akb(L:List UInt8):Nat×Nat:=match qP L with
 | .error e=>if e.1=4 then(0,0)else e
 | .ok _=>(0,0)
def OY(B:Nat)(w:World)(xb rb:Nat)(M:Nat->Prop)(L:List UInt8)(q:Ending)(w':World):Prop:=
 q=.returned (.tuple #[.int .i64 ((akb L).1:Int),.int .i64 ((akb L).2:Int)])/\ru w.heap.size M w w'/\(∃M',RSt B w' rb L M'/\∀k,M' k->k<w'.heap.size/\(k<w.heap.size->M k))/\AQ w' xb (some ⟨xb,0,none⟩) (some ⟨rb,0,none⟩)
section
variable (B xb rb:Nat)(l p:List UInt8)(M:Nat->Prop)(vp:Value)(w:World)(hX:AQ w xb (some ⟨xb,0,none⟩) (some ⟨rb,0,none⟩))(hxM:¬M xb)(hR:RSt B w rb l M)(hP:Pt w M vp p)(hlen:l.length+p.length<=4611686018427387904)(uN:CQ w)(hPow:Pow w)(IA:5<=B)(SI:B<=rb)(SK:∀k,M k->5<=k)(a:Addr)(hE:wQ w a)(hT:CW w)
include hX hxM hR hP hlen uN hPow IA SI SK hE hT in
theorem aca:Calls prog 33 #[.pointer (some ⟨xb,0,none⟩),vp] w λq w'=>OY B w xb rb M (l++p) q w':=by
 have KC:=Ru xb rb w hX;have KT:=akX B rb l p M vp w hR hP hlen uN hPow IA SI a hE;have c1:=qf.cell hX (i:=1) rfl;have hxl:=qf.lt hX;have ahf:1<w.heap.size:=rM hT;have hEb:∀w',ru w.heap.size M w w'->wQ w' a:=λw' h=>hE.but h ae (λx=>by have:=SK 0 x;omega)
 have hTb:∀w',ru w.heap.size M w w'->CW w':=λw' h=>(h.cell (p:=⟨1,0,none⟩) ahf (λx=>au_)).trans hT
 have hXb:∀w',ru w.heap.size M w w'->AQ w' xb (some ⟨xb,0,none⟩) (some ⟨rb,0,none⟩):=λw' h=>qf.later hX h hxl hxM
 unfold ana at KT;unfold OY akb;cases DW:qP (l++p)with
 |error e=>
  rw[DW]at KT;simp only at KT⊢;by_cases q4:e.1=4
  .simp only[aj q4];clear hR hP uN hPow hX;go_enter func33,ntmps33
   go_wp2_with(first|(go_at_call 56;(with_reducible refine KC.mono ?_);rintro q w1 ⟨rfl,BB⟩;obtain rfl:=BB.symm)|(go_at_call 57;(with_reducible refine KT.mono ?_);rintro q w2 ⟨g1,g2,v,d,hd,rfl,g3⟩;have hE2:=hEb _ g1;have ce:w2.cell? ⟨0,0,none⟩=_:=hE2;have KI:=OW d hd v a e.1 e.2 w2 g3 hE2;rw[iq q4]at KI;obtain⟨ty,x,rfl⟩:=g3.iface)|(go_at_call 58;(with_reducible refine KI.mono ?_);rintro q w3 ⟨rfl,Pv⟩;obtain rfl:=Pv.symm))
   go_ret2;exact⟨rfl,g1,g2,hXb _ g1⟩
  .simp only[ah q4];clear hR hP uN hPow hX;go_enter func33,ntmps33
   go_wp2_with(first|(go_at_call 56;(with_reducible refine KC.mono ?_);rintro q w1 ⟨rfl,BB⟩;obtain rfl:=BB.symm)|(go_at_call 57;(with_reducible refine KT.mono ?_);rintro q w2 ⟨g1,g2,v,d,hd,rfl,g3⟩;have hE2:=hEb _ g1;have ce:w2.cell? ⟨0,0,none⟩=_:=hE2;have KI:=OW d hd v a e.1 e.2 w2 g3 hE2;rw[dP q4]at KI;have KA:=GL d hd v e.1 e.2 w2 g3 (hTb _ g1);obtain⟨ty,x,rfl⟩:=g3.iface)|(go_at_call 58;(with_reducible refine KI.mono ?_);rintro q w3 ⟨rfl,Pv⟩;obtain rfl:=Pv.symm)|(go_at_call 20;(with_reducible refine KA.mono ?_);rintro q w4 ⟨rfl,g4⟩))
   go_ret2;exact⟨rfl,wM g1 g4,(by obtain⟨M',z1,z2⟩:=g2;exact⟨M',z1.below g4,λk hk=>⟨aK (z2 k hk).1 g4.size,(z2 k hk).2⟩⟩),qf.later (hXb _ g1) (S:=λ_=>False) (.qm g4) (qf.lt (hXb _ g1)) id⟩
 |ok sh=>
  rw[DW]at KT;simp only at KT⊢;clear hR hP uN hPow hX;go_enter func33,ntmps33
  go_wp2_with(first|(go_at_call 56;(with_reducible refine KC.mono ?_);rintro q w1 ⟨rfl,BB⟩;obtain rfl:=BB.symm)|(go_at_call 57;(with_reducible refine KT.mono ?_);rintro q w2 ⟨g1,g2,rfl⟩;have hE2:=hEb _ g1;have ce:w2.cell? ⟨0,0,none⟩=_:=hE2;have KI:=ao7 a w2;have KA:=MF w2)|(go_at_call 58;(with_reducible refine KI.mono ?_);rintro q w3 ⟨rfl,Pv⟩;obtain rfl:=Pv.symm)|(go_at_call 20;(with_reducible refine KA.mono ?_);rintro q w4 ⟨rfl,g4⟩))
  go_ret2;exact⟨rfl,wM g1 g4,(by obtain⟨M',z1,z2⟩:=g2;exact⟨M',z1.below g4,λk hk=>⟨aK (z2 k hk).1 g4.size,(z2 k hk).2⟩⟩),qf.later (hXb _ g1) (S:=λ_=>False) (.qm g4) (qf.lt (hXb _ g1)) id⟩
end
def Tu(B:Nat)(w:World)(xb:Nat)(M:Nat->Prop)(l:List UInt8)(q:Ending)(w':World):Prop:=
 ru w.heap.size (λk=>M k\/k=xb) w w'/\AQ w' xb (some ⟨xb,0,none⟩) none/\match qP l with
 | .error e=>q=.returned (.tuple #[D5,.int .i64 (e.1:Int),.int .i64 (e.2:Int)])
 | .ok s=>∃vN vS vC,q=.returned (.tuple #[.agg (yQ s.k s.n s.i s.c vN vS vC).toArray,.int .i64 0,.int .i64 0])/\
   w'.ownsRow B 9 1 vN s.names.length (Dk s.names)/\w'.ownsRow B 3 1 vS s.sizes.length (zF s.sizes)/\w'.ownsRow B 5 1 vC s.qy.length (r_ s.qy)
section
variable (B xb rb:Nat)(l:List UInt8)(M:Nat->Prop)(w:World)(hX:AQ w xb (some ⟨xb,0,none⟩) (some ⟨rb,0,none⟩))(hxM:¬M xb)(as3:5<=xb)(hR:RSt B w rb l M)(hlen:l.length<=4611686018427387904)(uN:CQ w)(hPow:Pow w)(IA:5<=B)(SI:B<=rb)(SK:∀k,M k->5<=k)(hMl:∀k,M k->k<w.heap.size)(a:Addr)(hE:wQ w a)(hT:CW w)
include hX hxM as3 hR hlen uN hPow IA SI SK hMl hE hT in
theorem Vt:Calls prog 34 #[.pointer (some ⟨xb,0,none⟩)] w λq w'=>Tu B w xb M l q w':=by
 have xq:=(aA w.heap.size w).alloc (ak _) (.cells zy.toArray 55);have Ac:qf (w.alloc (.cells zy.toArray 55)) w.heap.size zy 55:=qf.made w _ _;have hxl:=qf.lt hX;have as4:1<w.heap.size:=rM hT
 have h16:5<=w.heap.size:=by
  cases hR with
  |live vC vT h hm=>have:=h.lt.1;omega
  |dead h hm=>have:=SK _ hm;have:=hMl _ hm;omega
 have hX0:AQ (w.alloc (.cells zy.toArray 55)) xb (some ⟨xb,0,none⟩) (some ⟨rb,0,none⟩):=qf.later hX (S:=λ_=>False) (.qm xq) hxl id;have KE:=amA B rb l M _ (hR.below xq) hlen (uN.below xq ae) (hPow.belows xq h16) IA SI a (hE.belows xq);have KC:=Ru xb rb _ hX0;have Z5:CW (w.alloc (.cells zy.toArray 55)):=hT.below xq as4;have hnb:¬M w.heap.size:=λh=>by have:=hMl _ h;omega
 unfold zy yQ at xq Ac KE KC hX0 Z5;unfold Ky at KE;unfold Tu;clear hR uN hPow hX hT hE;cases DW:qP l with
 |error e=>
  rw[DW]at KE;simp only at KE⊢;go_enter func34,ntmps34
  go_upto_region 1 with(fail)
  generalize L9:w.alloc _=w0 at xq Ac KE KC hX0 Z5⊢;clear L9;have Xc:w.heap.size<w0.heap.size:=Ac.lt;have c1:=qf.cell hX0 (i:=1) rfl
  go_upto_region 4 with(first|(go_at_call 56;(with_reducible refine KC.mono ?_);rintro q w1 ⟨rfl,BB⟩;obtain rfl:=BB.symm)|(go_at_call 59;(with_reducible refine KE.mono ?_);rintro q w2 ⟨g1,v,d,hd,rfl,g2⟩;unfold D5 yQ;obtain⟨ty,x,rfl⟩:=g2.iface))
  have vK:=(aA w2.heap.size w2).alloc (ak _) (.cells ([.int .i64 0,.int .i64 0,.int .i64 0,.int .i64 0,.slice none 0 0,.slice none 0 0,.slice none 0 0]:List Value).toArray 55);have xu:qf (w2.alloc (.cells ([.int .i64 0,.int .i64 0,.int .i64 0,.int .i64 0,.slice none 0 0,.slice none 0 0,.slice none 0 0]:List Value).toArray 55)) w2.heap.size [.int .i64 0,.int .i64 0,.int .i64 0,.int .i64 0,.slice none 0 0,.slice none 0 0,.slice none 0 0] 55:=qf.made w2 _ _;generalize Pv:w2.alloc _=w3 at vK xu⊢;clear Pv;have SX:=Ac.later g1 Xc hnb;have NH:=SX.later (S:=λ_=>False) (.qm vK) SX.lt id;have Pm:AQ w2 xb _ _:=qf.later hX0 g1 (qf.lt hX0) hxM;have hX3:AQ w3 xb _ _:=qf.later Pm (S:=λ_=>False) (.qm vK) (qf.lt Pm) id;have VT:CW w2:=(g1.cell (p:=⟨1,0,none⟩) pq (λx=>au_)).trans Z5;have hT3:CW w3:=VT.below vK pW;have hC3:=g2.under vK;have Ny:ru w.heap.size M w w3:=wM ((ru.qm xq).step g1 (λ_ _ x=>x)) vK;have d1:=qf.cell hX3 (i:=1) rfl;have f1:=qf.frozen hX3 1
  go_upto_region 5 with(fail)
  have hX4:AQ (w3.setCell ⟨xb,1,none⟩ (.pointer none)) xb (some ⟨xb,0,none⟩) none:=qf.set hX3 1 (.pointer none);have Ib:ru w3.heap.size (· =xb) w3 (w3.setCell ⟨xb,1,none⟩ (.pointer none)):=(ru.refl w3.heap.size (· =xb) w3).setCell (p:=⟨xb,1,none⟩) (.inr rfl) (.pointer none);clear d1 f1 c1;generalize w3.setCell ⟨xb,1,none⟩ (.pointer none)=w4 at hX4 Ib⊢;have hx4:=NH.later Ib NH.lt ae;have hs4:=xu.later Ib xu.lt pW;have hT4:CW w4:=(Ib.cell (p:=⟨1,0,none⟩) awp (by show¬1=xb;omega)).trans hT3;have KA:=GL d hd _ e.1 e.2 w4 (hC3.other hX3 au au Ib) hT4
  go_upto_region 6 with(first|(go_at_call 20;(with_reducible refine KA.mono ?_);rintro q w5 ⟨rfl,g5⟩))
  have Yw:=hx4.later (S:=λ_=>False) (.qm g5) hx4.lt id;have FP:=hs4.later (S:=λ_=>False) (.qm g5) hs4.lt id;have hX5:AQ w5 xb _ _:=qf.later hX4 (S:=λ_=>False) (.qm g5) (qf.lt hX4) id;have hB5:ru w.heap.size (λk=>M k\/k=xb) w w5:=wM ((Ny.mono (ak _) (λ_ x=>.inl x)).step Ib (λ_ _ x=>.inr x)) g5;have c0:=Yw.cell (i:=0) rfl;have c1:=Yw.cell (i:=1) rfl;have c2:=Yw.cell (i:=2) rfl;have c3:=Yw.cell (i:=3) rfl;have c4:=Yw.cell (i:=4) rfl;have c5:=Yw.cell (i:=5) rfl;have c6:=Yw.cell (i:=6) rfl;have f0:=Yw.frozen;have d0:=FP.cell (i:=0) rfl;have d1:=FP.cell (i:=1) rfl;have d2:=FP.cell (i:=2) rfl;have d3:=FP.cell (i:=3) rfl;have d4:=FP.cell (i:=4) rfl;have d5:=FP.cell (i:=5) rfl;have d6:=FP.cell (i:=6) rfl;go_wp2;obtain⟨hF,hG⟩:=aed (b0:=.int .i64 0) (b1:=.int .i64 0) (b2:=.int .i64 0) (b3:=.int .i64 0) (b4:=.slice none 0 0) (b5:=.slice none 0 0) (b6:=.slice none 0 0) Yw;have hX6:AQ _ xb (some ⟨xb,0,none⟩) none:=qf.later hX5 hG (qf.lt hX5) ae;refine gu (AO (p:=2) (u:=3) (t:=4) rfl _ _ w.heap.size 55 _ (0,0) _ ax hF underlying55 rfl ag) rfl ?_;exact⟨hB5.step hG (λk hk e=>ae),hX6,rfl⟩
 |ok sh=>
  rw[DW]at KE;simp only at KE⊢;go_enter func34,ntmps34
  go_upto_region 1 with(fail)
  generalize L9:w.alloc _=w0 at xq Ac KE KC hX0 Z5⊢;clear L9;have Xc:w.heap.size<w0.heap.size:=Ac.lt;have c1:=qf.cell hX0 (i:=1) rfl
  go_upto_region 4 with(first|(go_at_call 56;(with_reducible refine KC.mono ?_);rintro q w1 ⟨rfl,BB⟩;obtain rfl:=BB.symm)|(go_at_call 59;(with_reducible refine KE.mono ?_);rintro q w2 ⟨g1,vN,vS,vC,rfl,n1,n2,n3⟩;unfold yQ;obtain⟨bn,cn,rfl⟩:=uH n1;obtain⟨bz,cz,rfl⟩:=uH n2;obtain⟨bc,cc,rfl⟩:=uH n3))
  have vK:=(aA w2.heap.size w2).alloc (ak _) (.cells ([.int .i64 (sh.k:Int),.int .i64 (sh.n:Int),.int .i64 (sh.i:Int),.int .i64 (sh.c:Int),.slice bn sh.names.length cn,.slice bz sh.sizes.length cz,.slice bc sh.qy.length cc]:List Value).toArray 55);have xu:qf (w2.alloc (.cells ([.int .i64 (sh.k:Int),.int .i64 (sh.n:Int),.int .i64 (sh.i:Int),.int .i64 (sh.c:Int),.slice bn sh.names.length cn,.slice bz sh.sizes.length cz,.slice bc sh.qy.length cc]:List Value).toArray 55)) w2.heap.size [.int .i64 (sh.k:Int),.int .i64 (sh.n:Int),.int .i64 (sh.i:Int),.int .i64 (sh.c:Int),.slice bn sh.names.length cn,.slice bz sh.sizes.length cz,.slice bc sh.qy.length cc] 55:=qf.made w2 _ _;generalize Pv:w2.alloc _=w3 at vK xu⊢;clear Pv;have SX:=Ac.later g1 Xc hnb;have NH:=SX.later (S:=λ_=>False) (.qm vK) SX.lt id;have Pm:AQ w2 xb _ _:=qf.later hX0 g1 (qf.lt hX0) hxM;have hX3:AQ w3 xb _ _:=qf.later Pm (S:=λ_=>False) (.qm vK) (qf.lt Pm) id;have VT:CW w2:=(g1.cell (p:=⟨1,0,none⟩) pq (λx=>au_)).trans Z5;have hT3:CW w3:=VT.below vK pW;have o1:=λ{e n:Nat}{v:Value}{xs:List Value}(h:w2.ownsRow B e 1 v n xs)=>vI (w':=w3) h (λg hg=>vK.block g (h.lt g hg).2);have Ny:ru w.heap.size M w w3:=wM ((ru.qm xq).step g1 (λ_ _ x=>x)) vK;have d1:=qf.cell hX3 (i:=1) rfl;have f1:=qf.frozen hX3 1
  go_upto_region 5 with(fail)
  have hX4:AQ (w3.setCell ⟨xb,1,none⟩ (.pointer none)) xb (some ⟨xb,0,none⟩) none:=qf.set hX3 1 (.pointer none);have Ib:ru w3.heap.size (· =xb) w3 (w3.setCell ⟨xb,1,none⟩ (.pointer none)):=(ru.refl w3.heap.size (· =xb) w3).setCell (p:=⟨xb,1,none⟩) (.inr rfl) (.pointer none);clear d1 f1 c1;generalize w3.setCell ⟨xb,1,none⟩ (.pointer none)=w4 at hX4 Ib⊢;have hx4:=NH.later Ib NH.lt ae;have hs4:=xu.later Ib xu.lt pW;have hT4:CW w4:=(Ib.cell (p:=⟨1,0,none⟩) awp (by show¬1=xb;omega)).trans hT3;have KA:=MF w4
  go_upto_region 6 with(first|(go_at_call 20;(with_reducible refine KA.mono ?_);rintro q w5 ⟨rfl,g5⟩))
  have Yw:=hx4.later (S:=λ_=>False) (.qm g5) hx4.lt id;have FP:=hs4.later (S:=λ_=>False) (.qm g5) hs4.lt id;have hX5:AQ w5 xb _ _:=qf.later hX4 (S:=λ_=>False) (.qm g5) (qf.lt hX4) id;have hB5:ru w.heap.size (λk=>M k\/k=xb) w w5:=wM ((Ny.mono (ak _) (λ_ x=>.inl x)).step Ib (λ_ _ x=>.inr x)) g5;have c0:=Yw.cell (i:=0) rfl;have c1:=Yw.cell (i:=1) rfl;have c2:=Yw.cell (i:=2) rfl;have c3:=Yw.cell (i:=3) rfl;have c4:=Yw.cell (i:=4) rfl;have c5:=Yw.cell (i:=5) rfl;have c6:=Yw.cell (i:=6) rfl;have f0:=Yw.frozen;have d0:=FP.cell (i:=0) rfl;have d1:=FP.cell (i:=1) rfl;have d2:=FP.cell (i:=2) rfl;have d3:=FP.cell (i:=3) rfl;have d4:=FP.cell (i:=4) rfl;have d5:=FP.cell (i:=5) rfl;have d6:=FP.cell (i:=6) rfl;go_wp2;obtain⟨hF,hG⟩:=aed (b0:=.int .i64 (sh.k:Int)) (b1:=.int .i64 (sh.n:Int)) (b2:=.int .i64 (sh.i:Int)) (b3:=.int .i64 (sh.c:Int)) (b4:=.slice bn sh.names.length cn) (b5:=.slice bz sh.sizes.length cz) (b6:=.slice bc sh.qy.length cc) Yw;have hX6:AQ _ xb (some ⟨xb,0,none⟩) none:=qf.later hX5 hG (qf.lt hX5) ae;refine gu (AO (p:=2) (u:=3) (t:=4) rfl _ _ w.heap.size 55 _ (0,0) _ ax hF underlying55 rfl ag) rfl ?_
  have o2:∀{e n:Nat}{v:Value}{xs:List Value},w2.ownsRow B e 1 v n xs->e≠124->e≠55->World.ownsRow _ B e 1 v n xs:=λh h1 h2=>yG Yw hG (by
   have z1:=yG hX3 Ib (o1 h) h1;exact vI z1 (λg hg=>g5.block g (z1.lt g hg).2)) h2
  exact⟨hB5.step hG (λk hk e=>ae),hX6,_,_,_,rfl,o2 n1 au au,o2 n2 au au,o2 n3 au au⟩
end
section
variable (p:List UInt8)(vp:Value)(w:World)(hP:Pt w (λ_=>False) vp p)(hlen:p.length<=4611686018427387904)(uN:CQ w)(hPow:Pow w)(h16:5<=w.heap.size)(a:Addr)(hE:wQ w a)(hT:CW w)
include hP hlen uN hPow h16 hE hT in
theorem acI:Calls prog 18 #[vp] w λq w'=>PD p w q w':=by
 have xq:=(aA w.heap.size w).alloc (ak _) (.cells zy.toArray 55);have Ac:qf (w.alloc (.cells zy.toArray 55)) w.heap.size zy 55:=qf.made w _ _;unfold zy yQ at xq Ac;unfold PD;cases DW:qP p with
 |error e=>
  simp only;go_enter func18,ntmps18
  go_upto_region 1 with(fail)
  generalize L9:w.alloc _=w0 at xq Ac⊢;clear L9;have Z5:=uN.below xq ae;have hP0:=hPow.belows xq h16;have hE0:=hE.belows xq;have hR0:CW w0:=hT.below xq ae;have akc:Pt w0 (λ_=>False) vp p:=hP.later (S:=λ_=>False) (.qm xq) (λ_ x=>x) (λ_ _ x=>x);have KN:=LY w0;have NC:w.heap.size<w0.heap.size:=Ac.lt
  go_upto_region 2 with(first|(go_at_call 32;(with_reducible refine KN.mono ?_);rintro q w1 ⟨xb,rb,rfl,n1,n2,n3,n4,n5⟩))
  have FU:=Ac.later (S:=λ_=>False) (.qm n5) Ac.lt id;have hn5:=n5.size
  have akd:Pt w1 (qO rb (.slice none 0 0) (.slice none 0 0)) vp p:=akc.later (S:=λ_=>False) (.qm n5) (λ_ x=>x) (λk hk x=>by
   rcases x with h|h|h
   .omega
   .cases h
   .cases h)
  have Z7:∀k,qO rb (.slice none 0 0) (.slice none 0 0) k->k=rb:=λk x=>by
   rcases x with h|h|h
   .exact h
   .cases h
   .cases h
  have hxr:xb≠rb:=by exact axT
  have akJ:=n2.lt;have KF:=aca w0.heap.size xb rb [] p (qO rb (.slice none 0 0) (.slice none 0 0)) vp w1 n1 (λh=>hxr (Z7 _ h)) (.live _ _ n2 (λ_ h=>h)) akd aus (Z5.below n5 ae) (hP0.belows n5 ae) ae n3 (λk h=>lU) a (hE0.belows n5) (hR0.below n5 ae);rw[bg]at KF;unfold OY at KF
  go_upto_region 3 with(first|(go_at_call 33;(with_reducible refine KF.mono ?_);rintro q w2 ⟨rfl,g1,⟨M',g2,g3⟩,g4⟩))
  have SK:∀k,M' k->5<=k:=λk h=>by
   rcases aQ k w1.heap.size with q|q
   .have:=Z7 k ((g3 k h).2 q);omega
   .omega
  have apb:=qf.lt n1;have hxM:¬M' xb:=λh=>hxr (Z7 _ ((g3 xb h).2 apb))
  have hbM:¬M' w.heap.size:=λh=>awl
  have SX:=FU.later g1 FU.lt (λh=>by have:=Z7 _ h;omega);have hnM:∀k,k<5->¬qO rb (.slice none 0 0) (.slice none 0 0) k:=λk hk h=>lU
  have KI:=Vt w0.heap.size xb rb p M' w2 g4 hxM ae g2 hlen ((Z5.below n5 ae).but g1 ae (hnM 2 ae)) ((hP0.belows n5 ae).but g1 (λk hk=>⟨ae,hnM k hk⟩)) ae n3 SK (λk h=>(g3 k h).1) a ((hE0.belows n5).but g1 ae (hnM 0 ae)) ((g1.cell (p:=⟨1,0,none⟩) pq (hnM 1 ae)).trans (hR0.below n5 ae));unfold Tu at KI;rw[DW]at KI;simp only at KI;have Ae:ru w.heap.size (λ_=>False) w w2:=(((ru.qm (xq.trans (n5.mono ae))):ru w.heap.size (λ_=>False) w w1)).step g1 (λk hk h=>lU);have hxw:¬w.heap.size=xb:=ae;clear KF KN Z5 hP0 hE0 hR0 akc akd n2
  go_wp2_with(first|(go_at_call 34;(with_reducible refine KI.mono ?_);rintro q w3 ⟨k1,k2,rfl⟩;unfold D5 yQ;have NH:=SX.later k1 SX.lt (λx=>x.elim hbM hxw);have c0:=NH.cell (i:=0) rfl;have c1:=NH.cell (i:=1) rfl;have c2:=NH.cell (i:=2) rfl;have c3:=NH.cell (i:=3) rfl;have c4:=NH.cell (i:=4) rfl;have c5:=NH.cell (i:=5) rfl;have c6:=NH.cell (i:=6) rfl;have f0:=NH.frozen))
  obtain⟨hF,hG⟩:=aed (b0:=.int .i64 0) (b1:=.int .i64 0) (b2:=.int .i64 0) (b3:=.int .i64 0) (b4:=.slice none 0 0) (b5:=.slice none 0 0) (b6:=.slice none 0 0) NH
  have Ny:ru w.heap.size (λ_=>False) w w3:=Ae.step k1 (λk hk h=>by
   rcases h with h|h
   .have:=Z7 k ((g3 k h).2 ae);omega
   .omega)
  have hBB:=(Ny.step hG (λk hk e=>ae)).below (λ_ _=>id);refine gu (AO (p:=2) (u:=3) (t:=4) rfl _ _ w.heap.size 55 _ (0,0) _ ax hF underlying55 rfl ag) rfl ?_;exact⟨hBB,rfl⟩
 |ok sh=>
  simp only;go_enter func18,ntmps18
  go_upto_region 1 with(fail)
  generalize L9:w.alloc _=w0 at xq Ac⊢;clear L9;have Z5:=uN.below xq ae;have hP0:=hPow.belows xq h16;have hE0:=hE.belows xq;have hR0:CW w0:=hT.below xq ae;have akc:Pt w0 (λ_=>False) vp p:=hP.later (S:=λ_=>False) (.qm xq) (λ_ x=>x) (λ_ _ x=>x);have KN:=LY w0;have NC:w.heap.size<w0.heap.size:=Ac.lt
  go_upto_region 2 with(first|(go_at_call 32;(with_reducible refine KN.mono ?_);rintro q w1 ⟨xb,rb,rfl,n1,n2,n3,n4,n5⟩))
  have FU:=Ac.later (S:=λ_=>False) (.qm n5) Ac.lt id;have hn5:=n5.size
  have akd:Pt w1 (qO rb (.slice none 0 0) (.slice none 0 0)) vp p:=akc.later (S:=λ_=>False) (.qm n5) (λ_ x=>x) (λk hk x=>by
   rcases x with h|h|h
   .omega
   .cases h
   .cases h)
  have Z7:∀k,qO rb (.slice none 0 0) (.slice none 0 0) k->k=rb:=λk x=>by
   rcases x with h|h|h
   .exact h
   .cases h
   .cases h
  have hxr:xb≠rb:=by exact axT
  have akJ:=n2.lt;have KF:=aca w0.heap.size xb rb [] p (qO rb (.slice none 0 0) (.slice none 0 0)) vp w1 n1 (λh=>hxr (Z7 _ h)) (.live _ _ n2 (λ_ h=>h)) akd aus (Z5.below n5 ae) (hP0.belows n5 ae) ae n3 (λk h=>lU) a (hE0.belows n5) (hR0.below n5 ae);rw[bg]at KF;unfold OY at KF
  go_upto_region 3 with(first|(go_at_call 33;(with_reducible refine KF.mono ?_);rintro q w2 ⟨rfl,g1,⟨M',g2,g3⟩,g4⟩))
  have SK:∀k,M' k->5<=k:=λk h=>by
   rcases aQ k w1.heap.size with q|q
   .have:=Z7 k ((g3 k h).2 q);omega
   .omega
  have apb:=qf.lt n1;have hxM:¬M' xb:=λh=>hxr (Z7 _ ((g3 xb h).2 apb))
  have hbM:¬M' w.heap.size:=λh=>awl
  have SX:=FU.later g1 FU.lt (λh=>by have:=Z7 _ h;omega);have hnM:∀k,k<5->¬qO rb (.slice none 0 0) (.slice none 0 0) k:=λk hk h=>lU
  have KI:=Vt w0.heap.size xb rb p M' w2 g4 hxM ae g2 hlen ((Z5.below n5 ae).but g1 ae (hnM 2 ae)) ((hP0.belows n5 ae).but g1 (λk hk=>⟨ae,hnM k hk⟩)) ae n3 SK (λk h=>(g3 k h).1) a ((hE0.belows n5).but g1 ae (hnM 0 ae)) ((g1.cell (p:=⟨1,0,none⟩) pq (hnM 1 ae)).trans (hR0.below n5 ae));unfold Tu at KI;rw[DW]at KI;simp only at KI;have Ae:ru w.heap.size (λ_=>False) w w2:=(((ru.qm (xq.trans (n5.mono ae))):ru w.heap.size (λ_=>False) w w1)).step g1 (λk hk h=>lU);have hxw:¬w.heap.size=xb:=ae;clear KF KN Z5 hP0 hE0 hR0 akc akd n2
  go_wp2_with(first|(go_at_call 34;(with_reducible refine KI.mono ?_);rintro q w3 ⟨k1,k2,vN,vS,vC,rfl,o1,o2,o3⟩;unfold yQ;obtain⟨bn,cn,rfl⟩:=uH o1;obtain⟨bz,cz,rfl⟩:=uH o2;obtain⟨bc,cc,rfl⟩:=uH o3;have NH:=SX.later k1 SX.lt (λx=>x.elim hbM hxw);have c0:=NH.cell (i:=0) rfl;have c1:=NH.cell (i:=1) rfl;have c2:=NH.cell (i:=2) rfl;have c3:=NH.cell (i:=3) rfl;have c4:=NH.cell (i:=4) rfl;have c5:=NH.cell (i:=5) rfl;have c6:=NH.cell (i:=6) rfl;have f0:=NH.frozen))
  obtain⟨hF,hG⟩:=aed (b0:=.int .i64 (sh.k:Int)) (b1:=.int .i64 (sh.n:Int)) (b2:=.int .i64 (sh.i:Int)) (b3:=.int .i64 (sh.c:Int)) (b4:=.slice bn sh.names.length cn) (b5:=.slice bz sh.sizes.length cz) (b6:=.slice bc sh.qy.length cc) NH
  have Ny:ru w.heap.size (λ_=>False) w w3:=Ae.step k1 (λk hk h=>by
   rcases h with h|h
   .have:=Z7 k ((g3 k h).2 ae);omega
   .omega)
  have hBB:=(Ny.step hG (λk hk e=>ae)).below (λ_ _=>id);refine gu (AO (p:=2) (u:=3) (t:=4) rfl _ _ w.heap.size 55 _ (0,0) _ ax hF underlying55 rfl ag) rfl ?_;exact⟨hBB,_,_,_,rfl,Bv (yG NH hG o1 au) ae,Bv (yG NH hG o2 au) ae,Bv (yG NH hG o3 au) ae⟩
end
theorem qR.str{w:World}{v:Value}{l:List UInt8}(h:qR w v (r_ l)):(convert 34 9 v).run prog w=.ok (.string ⟨l.toArray⟩) w:=by
 obtain⟨ba,cap,rfl,BD,hc⟩:=h;rw[sN]at BD⊢;by_cases h0:l=[]
 .subst h0;show(convert 34 9 (.slice ba 0 cap)).run prog w=_;rw[run_convert_bytes_string w 34 9 5 ba 0 cap underlying34 underlying5 underlying9];cases ba<;>rfl
 .have hp:0<l.length:=kK.2 h0;obtain⟨b,off,rfl,_⟩:=hc 0 _ (wR hp);refine run_convert_bytes_back w 34 9 5 ⟨b,off,none⟩ cap l underlying34 underlying5 underlying9 (λj hj=>?_);obtain⟨b',ahd,e,h2⟩:=hc j _ (wR hj);cases e;rw[G6,h2];simp[tJ,a_ hj]
structure atN(w:World)(s:xg)(vN vS vC:Value):Prop where
 n:qR w vN (Dk s.names)
 z:qR w vS (zF s.sizes)
 c:qR w vC (r_ s.qy)
theorem aaD(a b:List UInt8)(va vb:Value)(w:World)(ha:qR w va (r_ a))(hb:qR w vb (r_ b)):
  Calls prog 68 #[va,vb] w λr w'=>r=.returned (.bool (a==b))/\w'=w:=by
 have s1:=ha.str;have s2:=hb.str;obtain⟨pa,ca,rfl⟩:=ha.len;obtain⟨pb,cb,rfl⟩:=hb.len;go_enter func68,ntmps68;exact awx
theorem Yu(l:List UInt8)(v:Value)(w:World)(h:qR w v (r_ l))(hl:l.length<=1048576):
  Calls prog 69 #[v] w λr w'=>∃v',r=.returned v'/\w'.ownsRow w.heap.size 5 1 v' l.length (r_ l)/\Below w.heap.size w w':=by
 obtain⟨i0,Af,x_,w_,wH⟩:=bG Dc;obtain⟨ba,cap,rfl,BD,hc⟩:=h;have el:(r_ l).length=l.length:=dL;have q22:∀(w:World)(a:Option Addr)(n c n' c':Nat),(binOp .eql 34 (.slice a n c) (.slice none n' c')).run prog w=.ok (.bool a.isNone) w:=λw a n c n' c'=>Lib.run_eql_slice_nil w _ _ a n c n' c' underlying34
 rw[el]at BD⊢;cases ba with
 |none=>
  obtain rfl:l=[]:=by
   rcases l with _|⟨x,l⟩
   .rfl
   .obtain⟨b,off,e,_⟩:=hc 0 _ rfl;cases e
  go_enter func69,ntmps69;go_wp2;go_ret;exact⟨_,rfl,dh _ _ _ _,aA _ _⟩
 |some ad=>
  have b1:Below w.heap.size w (w.alloc (.cells #[] 5)):=(aA _ _).alloc (ak _) _;have C_:(w.alloc (.cells #[] 5)).ownsRow w.heap.size 5 1 (.slice (some ⟨w.heap.size,0,none⟩) 0 0) 0 []:=⟨rfl,.inr ⟨w.heap.size,0,#[],rfl,ak _,dO _ _,ak _,bH,rfl,rfl⟩⟩
  have apE:∀j u,(r_ l)[j]?=some u->(w.alloc (.cells #[] 5)).cell? (ad.add j)=some u:=λj u hj=>by obtain⟨b,off,e,hcc⟩:=hc j u hj;cases e;rw[Addr.add_mid];exact(b1.cell (p:=⟨b,off+j,none⟩) (rM hcc)).trans hcc
  have h1:∀u∈r_ l,u.oneCell'=true:=λu hu=>by obtain⟨x,_,rfl⟩:=fA.1 hu;rfl
  generalize BB:w.alloc (.cells #[] 5)=w1 at*;go_enter func69,ntmps69
  go_wp2_with(at_builtin;refine dG _ rfl _ _ 34 rfl w.heap.size 5 i0 (.int .u8 0) 1 1 underlying34 Af x_ w_ wH rfl au _ _ _ rfl C_ ad l.length cap (r_ l) rfl dL apE h1 bH ae b1.size ?_;intro v' w5 CE tq amN)
  go_wp2;go_ret;exact⟨v',rfl,by simpa using CE,b1.grown tq b1.size (λk hk=>by have e:w.heap.size=k:=eU hk;omega)⟩
end Go.Proofs.Y
namespace Go.Proofs
open Go.Shelf
def Tryz.aet:Go.Shelf.Ren:=⟨fun|14=>66|15=>107|n=>n,fun|26=>28|22=>34|3=>3|4=>4|0=>0|9=>9|20=>20|5=>5|n=>n,fun|n=>n⟩
theorem Tryz.aep:Go.Proofs.SlLaysJ.n14 prog Tryz.aet:={
 mixed:=ag
 f14:=func66.trans (aP some ag)
 f15:=func107.trans (aP some ag)
 t0:=underlying0
 a0:=Tryz.isAgg0
 z0:=Tryz.sizeOf0
 v0:=Tryz.zeroValue0
 t3:=underlying3
 a3:=Tryz.isAgg3
 z3:=Tryz.sizeOf3
 v3:=Tryz.zeroValue3
 t4:=underlying4
 a4:=Tryz.isAgg4
 z4:=Tryz.sizeOf4
 v4:=Tryz.zeroValue4
 t9:=underlying9
 a9:=Tryz.isAgg9
 z9:=Tryz.sizeOf9
 v9:=Tryz.zeroValue9
 t20:=underlying20
 a20:=Tryz.isAgg20
 z20:=Tryz.sizeOf20
 v20:=Tryz.zeroValue20
 t22:=underlying34
 a22:=Tryz.isAgg34
 z22:=Tryz.sizeOf34
 v22:=Tryz.zeroValue34
 t26:=underlying28
 a26:=Tryz.isAgg28
 z26:=Tryz.sizeOf28
 v26:=Tryz.zeroValue28
 t5:=underlying5
 z5:=Tryz.sizeOf5
 i5:=ag}
