import Derived.Test.YtlghjjennhpjeaaGreatDoorErD
import Derived.Shelf.Bytes.SlJoin
set_option maxHeartbeats 4000000
set_option maxRecDepth 100000
namespace Go.Proofs.Y
open Go.Proofs.Tryz
open Go.RowKit Go.Deep
theorem ajO(rb:Nat)(l:aj)(w:ah)(hD:akZ w rb l):Calls prog 44 #[.pointer (some ⟨rb,0,none⟩)] w λq w'=>Ll 0 w l (λ_=>False) q w':=by
 have xH:=(aO w.heap.size w).alloc (ay _) (.cells zD.toArray 41);have zh:ql (w.alloc (.cells zD.toArray 41)) w.heap.size zD 41:=ql.made w _ _
 have hD0:akZ (w.alloc (.cells zD.toArray 41)) rb l:=by obtain⟨v,d,e,hd,hR,hC,h4,hE⟩:=hD;exact⟨v,d,e,hd,ql.later hR (S:=λ_=>False) (.qw xH) (ql.lt hR) id,hC.under xH,h4,hE⟩
 have K:=XR rb l (.slice none 0 0) _ hD0;unfold Ll;obtain⟨v,d,e,hd,hR,hC,h4,hE⟩:=hD0;have Bh:qN l=.error e:=by have:=hE [];rwa[dX]at this
 rw[Bh]
 have K2:Calls prog 42 #[.pointer (some ⟨rb,0,none⟩),.slice none 0 0] (w.alloc (.cells zD.toArray 41)) λq w'=>w'=w.alloc (.cells zD.toArray 41)/\∃v d,d<=2/\q=.returned v/\sF w' d v e.1 e.2:=by refine K.mono ?_;rintro q w' ⟨rfl,v',d',e',k1,k2,k3,k4,k5⟩;have:=k5 [];rw[dX,Bh]at this;cases this;exact⟨rfl,v',d',k1,k2,k3⟩
 clear K hD Bh hE hR hC hd;unfold zD sG at xH zh K2;go_enter func44,ntmps44
 go_upto_region 1 with(fail)
 generalize Og:w.alloc _=w0 at xH zh K2⊢;clear Og;have c0:=zh.cell (i:=0) rfl;have c1:=zh.cell (i:=1) rfl;have c2:=zh.cell (i:=2) rfl;have c3:=zh.cell (i:=3) rfl;have c4:=zh.cell (i:=4) rfl;have c5:=zh.cell (i:=5) rfl;have c6:=zh.cell (i:=6) rfl;have f0:=zh.frozen
 go_wp2_with(first|(go_at_call 42;with_reducible refine K2.mono ?_;rintro q w1 ⟨E8,v,d,hd,rfl,g2⟩;obtain rfl:=E8.symm;obtain⟨ty,x,rfl⟩:=g2.iface))
 obtain⟨hF,hG⟩:=adw (b0:=.int .i64 0) (b1:=.int .i64 0) (b2:=.int .i64 0) (b3:=.int .i64 0) (b4:=.slice none 0 0) (b5:=.slice none 0 0) (b6:=.slice none 0 0) zh;have hC:=g2.other zh aB aB hG;refine dS (Eu (p:=2) (u:=3) rfl _ _ w.heap.size 41 _ (0,0) _ aF hF underlying41 rfl ak) rfl ?_;exact⟨(qG.qw xH).step hG (λk hk e=>ag),_,d,hd,rfl,hC⟩
def AP(w:ah)(xb:Nat)(m r:aW):Prop:=ql w xb [.pointer m,.pointer r] 104
theorem amH:∃j,prog.info? 104=some j:=avS.1 ak
theorem ajP(a:Addr)(w:ah):(binOp .neq 64 (.pointer (some a)) (.pointer (some a))).run prog w=.ok (.bool false) w:=by obtain⟨j,hj⟩:=amH;exact Lib.run_neq_ptr_same w a underlying64 hj
theorem Rt(xb rb:Nat)(w:ah)(h:AP w xb (some ⟨xb,0,none⟩) (some ⟨rb,0,none⟩)):Calls prog 41 #[.pointer (some ⟨xb,0,none⟩)] w λq w'=>q=.returned (.bool false)/\w'=w:=by have c0:=ql.cell h (i:=0) rfl;have c1:=ql.cell h (i:=1) rfl;have e1:=ajP ⟨xb,0,none⟩;go_enter func41,ntmps41;exact axd
def St.zero:St:=⟨0,0,0,0,[],[],[],0,0,0,0,0⟩
theorem agS:JK St.zero [] []:=⟨λx=>.head rfl rfl rfl,⟨by simp[St.zero],λi hi=>qg⟩,⟨aB,aB,aB,aB,aB,aB⟩,⟨λ_=>rfl,(λh=>absurd h aB),(λh=>absurd h aB)⟩,λ_=>aA,λ_=>rfl⟩
theorem MJ(w:ah):Calls prog 19 #[] w λq w'=>∃xb rb,q=.returned (.pointer (some ⟨xb,0,none⟩))/\AP w' xb (some ⟨xb,0,none⟩) (some ⟨rb,0,none⟩)/\Live w.heap.size w' rb [] (.slice none 0 0) (.slice none 0 0)/\w.heap.size<=rb/\w.heap.size<=xb/\Below w.heap.size w w':=by
 go_enter func19,ntmps19;go_wp2;go_ret;have tV:=(aO w.heap.size w).alloc (ay _) (.cells (St.zero.rd (.slice none 0 0) (.slice none 0 0) (.slice none 0 0) (.slice none 0 0) .nilIface).cells.toArray 102);have TU:xU (w.alloc (.cells (St.zero.rd (.slice none 0 0) (.slice none 0 0) (.slice none 0 0) (.slice none 0 0) .nilIface).cells.toArray 102)) w.heap.size (St.zero.rd (.slice none 0 0) (.slice none 0 0) (.slice none 0 0) (.slice none 0 0) .nilIface):=ql.made w _ _;have Ai:(w.alloc (.cells (St.zero.rd (.slice none 0 0) (.slice none 0 0) (.slice none 0 0) (.slice none 0 0) .nilIface).cells.toArray 102)).heap.size=w.heap.size+1:=aA
 have key:∀w1:ah,Below w.heap.size w w1->xU w1 w.heap.size (St.zero.rd (.slice none 0 0) (.slice none 0 0) (.slice none 0 0) (.slice none 0 0) .nilIface)->w1.heap.size=w.heap.size+1->
   AP (w1.alloc (.cells #[.pointer (some ⟨w.heap.size+1,0,none⟩),.pointer (some ⟨w.heap.size,0,none⟩)] 104)) (w.heap.size+1) (some ⟨w.heap.size+1,0,none⟩) (some ⟨w.heap.size,0,none⟩)/\Live w.heap.size (w1.alloc (.cells #[.pointer (some ⟨w.heap.size+1,0,none⟩),.pointer (some ⟨w.heap.size,0,none⟩)] 104)) w.heap.size [] (.slice none 0 0) (.slice none 0 0)/\Below w.heap.size w (w1.alloc (.cells #[.pointer (some ⟨w.heap.size+1,0,none⟩),.pointer (some ⟨w.heap.size,0,none⟩)] 104)):=by
  intro w1 h1 h2 h3;have rq:=(aO w1.heap.size w1).alloc (ay _) (.cells #[.pointer (some ⟨w.heap.size+1,0,none⟩),.pointer (some ⟨w.heap.size,0,none⟩)] 104);have hX:=ql.made w1 [.pointer (some ⟨w.heap.size+1,0,none⟩),.pointer (some ⟨w.heap.size,0,none⟩)] 104;rw[h3]at hX;refine⟨hX,⟨St.zero,[],.slice none 0 0,.slice none 0 0,⟨ql.later h2 (S:=λ_=>False) (.qw rq) (ql.lt h2) id,bY _ _ _ _,bY _ _ _ _,bY _ _ _ _,bY _ _ _ _,(λg hg=>ou),?_⟩,agS,rfl⟩,h1.trans (rq.mono h1.size)⟩;have:=rq.size;omega
 obtain⟨k1,k2,k3⟩:=key _ tV TU Ai;exact⟨w.heap.size+1,w.heap.size,rfl,k1,k2,ay _,ag,k3⟩
inductive RSt (B:Nat) (w:ah) (rb:Nat) (l:aj) (M:Nat->Prop):Prop
 |live (vC vT:ai) (h:Live B w rb l vC vT) (hM:∀k,qQ rb vC vT k->M k)
 |dead (h:akZ w rb l) (hM:M rb)
theorem RSt.below{B:Nat}{w w':ah}{rb:Nat}{l:aj}{M:Nat->Prop}(h:RSt B w rb l M)(hb:Below w.heap.size w w'):RSt B w' rb l M:=by
 cases h with
 |live vC vT h hm=>exact .live vC vT (h.below hb) hm
 |dead h hm=>
  obtain⟨v,d,e,hd,hR,hC,h4,hE⟩:=h;exact .dead ⟨v,d,e,hd,ql.later hR (S:=λ_=>False) (.qw hb) (ql.lt hR) id,hC.under hb,h4,hE⟩ hm
theorem Pt.less{w:ah}{M M':Nat->Prop}{v:ai}{p:aj}(h:Pt w M v p)(hM:∀k,M' k->M k):Pt w M' v p:=by
 rcases h with h|⟨ad,c,e,h1,h2,h3⟩
 .exact .inl h
 .exact .inr ⟨ad,c,e,h1,λx y=>h2 x (hM _ y),h3⟩
def anw(B:Nat)(w:ah)(rb:Nat)(M:Nat->Prop)(L:aj)(q:Ending)(w':ah):Prop:=
 qG w.heap.size M w w'/\(∃M',RSt B w' rb L M'/\∀k,M' k->k<w'.heap.size/\(k<w.heap.size->M k))/\match qN L with
 | .error e=>∃v d,d<=2/\q=.returned v/\sF w' d v e.1 e.2
 | .ok _=>q=.returned .nilIface
section
variable (B rb:Nat)(l p:aj)(M:Nat->Prop)(vp:ai)(w:ah)(hR:RSt B w rb l M)(hP:Pt w M vp p)(hlen:l.length+p.length<=4611686018427387904)(uX:LQ w)(hPow:Pow w)(Jb:5<=B)(Sz:B<=rb)(a:Addr)(hE:wU w a)
include hR hP hlen uX hPow Jb Sz hE in
theorem ak4:Calls prog 42 #[.pointer (some ⟨rb,0,none⟩),vp] w λq w'=>anw B w rb M (l++p) q w':=by
 cases hR with
 |live vC vT h hm=>
  have Yz:rb<w.heap.size:=h.lt.2 _ (.inl rfl);refine(XQ B rb l p vC vT vp w h (hP.less hm) hlen uX hPow Jb Sz a hE).mono ?_;rintro q w' ⟨h1,h2⟩;refine⟨h1.mono (ay _) hm,?_⟩;have sub:∀{DX Df:ai},Live B w' rb (l++p) DX Df->(∀k,k<w.heap.size->qQ rb DX Df k->qQ rb vC vT k)->∀k,qQ rb DX Df k->k<w'.heap.size/\(k<w.heap.size->M k):=λhl hs k hk=>⟨hl.lt.2 k hk,λq=>hm k (hs k q hk)⟩
  rcases h2 with⟨v,d,e,k1,k2,k3,k4,k5,k6⟩|⟨k0,s,vN,vS,DX,Df,m1,m2,m3,m4,m5,m6⟩
  .rw[k4];refine⟨?_,v,d,k1,k2,k3⟩;by_cases q4:e.1=4
   .obtain⟨DX,Df,n1,n2⟩:=k6 q4;exact⟨_,.live DX Df n1 (λ_ h=>h),sub n1 n2⟩
   .exact⟨(· =rb),.dead (k5 q4) rfl,λk hk=>by subst hk;exact⟨bH Yz h1.size,λ_=>hm _ (.inl rfl)⟩⟩
  .rw[m5];have hlv:Live B w' rb (l++p) DX Df:=⟨s,[],vN,vS,m1,m2,m4⟩;exact⟨⟨_,.live DX Df hlv (λ_ h=>h),sub hlv m6⟩,k0⟩
 |dead h hm=>
  refine(XR rb l vp w h).mono ?_;rintro q w' ⟨rfl,v,d,e,k1,k2,k3,k4,k5⟩;refine⟨qG.refl _ _ _,?_,?_⟩
  .obtain⟨v',d',e',j1,j2,j3,j4,j5⟩:=h;exact⟨(· =rb),.dead ⟨v',d',e',j1,j2,j3,j4,λx=>by rw[kX];exact j5 (p++x)⟩ rfl,λk hk=>by subst hk;exact⟨ql.lt j2,λ_=>hm⟩⟩
  .rw[k5 p];exact⟨v,d,k1,k2,k3⟩
end
theorem amI(B rb:Nat)(l:aj)(M:Nat->Prop)(w:ah)(hR:RSt B w rb l M)(hlen:l.length<=4611686018427387904)(uX:LQ w)(hPow:Pow w)(Jb:5<=B)(Sz:B<=rb)(a:Addr)(hE:wU w a):
  Calls prog 44 #[.pointer (some ⟨rb,0,none⟩)] w λq w'=>Ll B w l M q w':=by
 cases hR with
 |live vC vT h hm=>
  refine(ajo B rb l vC vT w hlen uX hPow Jb Sz a hE h).mono ?_;rintro q w' ⟨h1,h2⟩;exact⟨h1.mono (ay _) hm,h2⟩
 |dead h hm=>
  refine(ajO rb l w h).mono ?_;rintro q w' ⟨h1,h2⟩;refine⟨h1.mono (ay _) (λ_ x=>x.elim),?_⟩;obtain⟨v,d,e,hd,hR',hC,h4,hE'⟩:=h;have Bh:qN l=.error e:=by have:=hE' [];rwa[dX]at this
  rw[Bh]at h2⊢;exact h2
def ajQ(L:aj):Nat×Nat:=match qN L with
 | .error e=>if e.1=4 then(0,0)else e
 | .ok _=>(0,0)
def O7(B:Nat)(w:ah)(xb rb:Nat)(M:Nat->Prop)(L:aj)(q:Ending)(w':ah):Prop:=
 q=.returned (.tuple #[.int .i64 ((ajQ L).1:Int),.int .i64 ((ajQ L).2:Int)])/\qG w.heap.size M w w'/\(∃M',RSt B w' rb L M'/\∀k,M' k->k<w'.heap.size/\(k<w.heap.size->M k))/\AP w' xb (some ⟨xb,0,none⟩) (some ⟨rb,0,none⟩)
section
variable (B xb rb:Nat)(l p:aj)(M:Nat->Prop)(vp:ai)(w:ah)(hX:AP w xb (some ⟨xb,0,none⟩) (some ⟨rb,0,none⟩))(hxM:¬M xb)(hR:RSt B w rb l M)(hP:Pt w M vp p)(hlen:l.length+p.length<=4611686018427387904)(uX:LQ w)(hPow:Pow w)(Jb:5<=B)(Sz:B<=rb)(SE:∀k,M k->5<=k)(a:Addr)(hE:wU w a)(hT:CY w)
include hX hxM hR hP hlen uX hPow Jb Sz SE hE hT in
theorem abH:Calls prog 20 #[.pointer (some ⟨xb,0,none⟩),vp] w λq w'=>O7 B w xb rb M (l++p) q w':=by
 have KC:=Rt xb rb w hX;have KT:=ak4 B rb l p M vp w hR hP hlen uX hPow Jb Sz a hE;have c1:=ql.cell hX (i:=1) rfl;have hxl:=ql.lt hX;have ahx:1<w.heap.size:=rY hT;have hEb:∀w',qG w.heap.size M w w'->wU w' a:=λw' h=>hE.but h ag (λx=>by have:=SE 0 x;omega)
 have hTb:∀w',qG w.heap.size M w w'->CY w':=λw' h=>(h.cell (p:=⟨1,0,none⟩) ahx (λx=>avN)).trans hT
 have hXb:∀w',qG w.heap.size M w w'->AP w' xb (some ⟨xb,0,none⟩) (some ⟨rb,0,none⟩):=λw' h=>ql.later hX h hxl hxM
 unfold anw at KT;unfold O7 ajQ;cases Bh:qN (l++p)with
 |error e=>
  rw[Bh]at KT;simp only at KT⊢;by_cases q4:e.1=4
  .simp only[ax q4];clear hR hP uX hPow hX;go_enter func20,ntmps20
   go_wp2_with(first|(go_at_call 41;(with_reducible refine KC.mono ?_);rintro q w1 ⟨rfl,E8⟩;obtain rfl:=E8.symm)|(go_at_call 42;(with_reducible refine KT.mono ?_);rintro q w2 ⟨g1,g2,v,d,hd,rfl,g3⟩;have hE2:=hEb _ g1;have ce:w2.cell? ⟨0,0,none⟩=_:=hE2;have KI:=O1 d hd v a e.1 e.2 w2 g3 hE2;rw[gV q4]at KI;obtain⟨ty,x,rfl⟩:=g3.iface)|(go_at_call 43;(with_reducible refine KI.mono ?_);rintro q w3 ⟨rfl,PY⟩;obtain rfl:=PY.symm))
   go_ret2;exact⟨rfl,g1,g2,hXb _ g1⟩
  .simp only[au q4];clear hR hP uX hPow hX;go_enter func20,ntmps20
   go_wp2_with(first|(go_at_call 41;(with_reducible refine KC.mono ?_);rintro q w1 ⟨rfl,E8⟩;obtain rfl:=E8.symm)|(go_at_call 42;(with_reducible refine KT.mono ?_);rintro q w2 ⟨g1,g2,v,d,hd,rfl,g3⟩;have hE2:=hEb _ g1;have ce:w2.cell? ⟨0,0,none⟩=_:=hE2;have KI:=O1 d hd v a e.1 e.2 w2 g3 hE2;rw[dY q4]at KI;have KA:=Hw d hd v e.1 e.2 w2 g3 (hTb _ g1);obtain⟨ty,x,rfl⟩:=g3.iface)|(go_at_call 43;(with_reducible refine KI.mono ?_);rintro q w3 ⟨rfl,PY⟩;obtain rfl:=PY.symm)|(go_at_call 11;(with_reducible refine KA.mono ?_);rintro q w4 ⟨rfl,g4⟩))
   go_ret2;exact⟨rfl,wR g1 g4,(by obtain⟨M',z1,z2⟩:=g2;exact⟨M',z1.below g4,λk hk=>⟨bH (z2 k hk).1 g4.size,(z2 k hk).2⟩⟩),ql.later (hXb _ g1) (S:=λ_=>False) (.qw g4) (ql.lt (hXb _ g1)) id⟩
 |ok sh=>
  rw[Bh]at KT;simp only at KT⊢;clear hR hP uX hPow hX;go_enter func20,ntmps20
  go_wp2_with(first|(go_at_call 41;(with_reducible refine KC.mono ?_);rintro q w1 ⟨rfl,E8⟩;obtain rfl:=E8.symm)|(go_at_call 42;(with_reducible refine KT.mono ?_);rintro q w2 ⟨g1,g2,rfl⟩;have hE2:=hEb _ g1;have ce:w2.cell? ⟨0,0,none⟩=_:=hE2;have KI:=ao8 a w2;have KA:=Ny w2)|(go_at_call 43;(with_reducible refine KI.mono ?_);rintro q w3 ⟨rfl,PY⟩;obtain rfl:=PY.symm)|(go_at_call 11;(with_reducible refine KA.mono ?_);rintro q w4 ⟨rfl,g4⟩))
  go_ret2;exact⟨rfl,wR g1 g4,(by obtain⟨M',z1,z2⟩:=g2;exact⟨M',z1.below g4,λk hk=>⟨bH (z2 k hk).1 g4.size,(z2 k hk).2⟩⟩),ql.later (hXb _ g1) (S:=λ_=>False) (.qw g4) (ql.lt (hXb _ g1)) id⟩
end
def TG(B:Nat)(w:ah)(xb:Nat)(M:Nat->Prop)(l:aj)(q:Ending)(w':ah):Prop:=
 qG w.heap.size (λk=>M k\/k=xb) w w'/\AP w' xb (some ⟨xb,0,none⟩) none/\match qN l with
 | .error e=>q=.returned (.tuple #[Bq,.int .i64 (e.1:Int),.int .i64 (e.2:Int)])
 | .ok s=>∃vN vS vC,q=.returned (.tuple #[.agg (sG s.k s.n s.i s.c vN vS vC).toArray,.int .i64 0,.int .i64 0])/\
   w'.ownsRow B 9 1 vN s.names.length (zC s.names)/\w'.ownsRow B 3 1 vS s.sizes.length (uH s.sizes)/\w'.ownsRow B 5 1 vC s.qC.length (rP s.qC)
section
variable (B xb rb:Nat)(l:aj)(M:Nat->Prop)(w:ah)(hX:AP w xb (some ⟨xb,0,none⟩) (some ⟨rb,0,none⟩))(hxM:¬M xb)(as8:5<=xb)(hR:RSt B w rb l M)(hlen:l.length<=4611686018427387904)(uX:LQ w)(hPow:Pow w)(Jb:5<=B)(Sz:B<=rb)(SE:∀k,M k->5<=k)(hMl:∀k,M k->k<w.heap.size)(a:Addr)(hE:wU w a)(hT:CY w)
include hX hxM as8 hR hlen uX hPow Jb Sz SE hMl hE hT in
theorem Vl:Calls prog 21 #[.pointer (some ⟨xb,0,none⟩)] w λq w'=>TG B w xb M l q w':=by
 have xH:=(aO w.heap.size w).alloc (ay _) (.cells zD.toArray 41);have zh:ql (w.alloc (.cells zD.toArray 41)) w.heap.size zD 41:=ql.made w _ _;have hxl:=ql.lt hX;have apD:1<w.heap.size:=rY hT
 have h16:5<=w.heap.size:=by
  cases hR with
  |live vC vT h hm=>have:=h.lt.1;omega
  |dead h hm=>have:=SE _ hm;have:=hMl _ hm;omega
 have hX0:AP (w.alloc (.cells zD.toArray 41)) xb (some ⟨xb,0,none⟩) (some ⟨rb,0,none⟩):=ql.later hX (S:=λ_=>False) (.qw xH) hxl id;have KE:=amI B rb l M _ (hR.below xH) hlen (uX.below xH ag) (hPow.belows xH h16) Jb Sz a (hE.belows xH);have KC:=Rt xb rb _ hX0;have Z9:CY (w.alloc (.cells zD.toArray 41)):=hT.below xH apD;have hnb:¬M w.heap.size:=λh=>by have:=hMl _ h;omega
 unfold zD sG at xH zh KE KC hX0 Z9;unfold Ll at KE;unfold TG;clear hR uX hPow hX hT hE;cases Bh:qN l with
 |error e=>
  rw[Bh]at KE;simp only at KE⊢;go_enter func21,ntmps21
  go_upto_region 1 with(fail)
  generalize Og:w.alloc _=w0 at xH zh KE KC hX0 Z9⊢;clear Og;have aev:w.heap.size<w0.heap.size:=zh.lt;have c1:=ql.cell hX0 (i:=1) rfl
  go_upto_region 4 with(first|(go_at_call 41;(with_reducible refine KC.mono ?_);rintro q w1 ⟨rfl,E8⟩;obtain rfl:=E8.symm)|(go_at_call 44;(with_reducible refine KE.mono ?_);rintro q w2 ⟨g1,v,d,hd,rfl,g2⟩;unfold Bq sG;obtain⟨ty,x,rfl⟩:=g2.iface))
  have uQ:=(aO w2.heap.size w2).alloc (ay _) (.cells ([.int .i64 0,.int .i64 0,.int .i64 0,.int .i64 0,.slice none 0 0,.slice none 0 0,.slice none 0 0]:aK).toArray 41);have zM:ql (w2.alloc (.cells ([.int .i64 0,.int .i64 0,.int .i64 0,.int .i64 0,.slice none 0 0,.slice none 0 0,.slice none 0 0]:aK).toArray 41)) w2.heap.size [.int .i64 0,.int .i64 0,.int .i64 0,.int .i64 0,.slice none 0 0,.slice none 0 0,.slice none 0 0] 41:=ql.made w2 _ _;generalize PY:w2.alloc _=w3 at uQ zM⊢;clear PY;have N8:=zh.later g1 aev hnb;have Oh:=N8.later (S:=λ_=>False) (.qw uQ) N8.lt id;have RQ:AP w2 xb _ _:=ql.later hX0 g1 (ql.lt hX0) hxM;have hX3:AP w3 xb _ _:=ql.later RQ (S:=λ_=>False) (.qw uQ) (ql.lt RQ) id;have VY:CY w2:=(g1.cell (p:=⟨1,0,none⟩) auj (λx=>avN)).trans Z9;have hT3:CY w3:=VY.below uQ aut;have hC3:=g2.under uQ;have F8:qG w.heap.size M w w3:=wR ((qG.qw xH).step g1 (λ_ _ x=>x)) uQ;have d1:=ql.cell hX3 (i:=1) rfl;have f1:=ql.frozen hX3 1
  go_upto_region 5 with(fail)
  have hX4:AP (w3.setCell ⟨xb,1,none⟩ (.pointer none)) xb (some ⟨xb,0,none⟩) none:=ql.set hX3 1 (.pointer none);have xX:qG w3.heap.size (· =xb) w3 (w3.setCell ⟨xb,1,none⟩ (.pointer none)):=(qG.refl w3.heap.size (· =xb) w3).setCell (p:=⟨xb,1,none⟩) (.inr rfl) (.pointer none);clear d1 f1 c1;generalize w3.setCell ⟨xb,1,none⟩ (.pointer none)=w4 at hX4 xX⊢;have hx4:=Oh.later xX Oh.lt ag;have Yw:=zM.later xX zM.lt aut;have hT4:CY w4:=(xX.cell (p:=⟨1,0,none⟩) aw5 (by show¬1=xb;omega)).trans hT3;have KA:=Hw d hd _ e.1 e.2 w4 (hC3.other hX3 aB aB xX) hT4
  go_upto_region 6 with(first|(go_at_call 11;(with_reducible refine KA.mono ?_);rintro q w5 ⟨rfl,g5⟩))
  have YE:=hx4.later (S:=λ_=>False) (.qw g5) hx4.lt id;have L6:=Yw.later (S:=λ_=>False) (.qw g5) Yw.lt id;have hX5:AP w5 xb _ _:=ql.later hX4 (S:=λ_=>False) (.qw g5) (ql.lt hX4) id;have Y_:qG w.heap.size (λk=>M k\/k=xb) w w5:=wR ((F8.mono (ay _) (λ_ x=>.inl x)).step xX (λ_ _ x=>.inr x)) g5;have c0:=YE.cell (i:=0) rfl;have c1:=YE.cell (i:=1) rfl;have c2:=YE.cell (i:=2) rfl;have c3:=YE.cell (i:=3) rfl;have c4:=YE.cell (i:=4) rfl;have c5:=YE.cell (i:=5) rfl;have c6:=YE.cell (i:=6) rfl;have f0:=YE.frozen;have d0:=L6.cell (i:=0) rfl;have d1:=L6.cell (i:=1) rfl;have d2:=L6.cell (i:=2) rfl;have d3:=L6.cell (i:=3) rfl;have d4:=L6.cell (i:=4) rfl;have d5:=L6.cell (i:=5) rfl;have d6:=L6.cell (i:=6) rfl;go_wp2;obtain⟨hF,hG⟩:=adw (b0:=.int .i64 0) (b1:=.int .i64 0) (b2:=.int .i64 0) (b3:=.int .i64 0) (b4:=.slice none 0 0) (b5:=.slice none 0 0) (b6:=.slice none 0 0) YE;have hX6:AP _ xb (some ⟨xb,0,none⟩) none:=ql.later hX5 hG (ql.lt hX5) ag;refine dS (w_ (p:=2) (u:=3) (t:=4) rfl _ _ w.heap.size 41 _ (0,0) _ aF hF underlying41 rfl ak) rfl ?_;exact⟨Y_.step hG (λk hk e=>ag),hX6,rfl⟩
 |ok sh=>
  rw[Bh]at KE;simp only at KE⊢;go_enter func21,ntmps21
  go_upto_region 1 with(fail)
  generalize Og:w.alloc _=w0 at xH zh KE KC hX0 Z9⊢;clear Og;have aev:w.heap.size<w0.heap.size:=zh.lt;have c1:=ql.cell hX0 (i:=1) rfl
  go_upto_region 4 with(first|(go_at_call 41;(with_reducible refine KC.mono ?_);rintro q w1 ⟨rfl,E8⟩;obtain rfl:=E8.symm)|(go_at_call 44;(with_reducible refine KE.mono ?_);rintro q w2 ⟨g1,vN,vS,vC,rfl,n1,n2,n3⟩;unfold sG;obtain⟨bn,cn,rfl⟩:=uB n1;obtain⟨bz,cz,rfl⟩:=uB n2;obtain⟨bc,cc,rfl⟩:=uB n3))
  have uQ:=(aO w2.heap.size w2).alloc (ay _) (.cells ([.int .i64 (sh.k:Int),.int .i64 (sh.n:Int),.int .i64 (sh.i:Int),.int .i64 (sh.c:Int),.slice bn sh.names.length cn,.slice bz sh.sizes.length cz,.slice bc sh.qC.length cc]:aK).toArray 41);have zM:ql (w2.alloc (.cells ([.int .i64 (sh.k:Int),.int .i64 (sh.n:Int),.int .i64 (sh.i:Int),.int .i64 (sh.c:Int),.slice bn sh.names.length cn,.slice bz sh.sizes.length cz,.slice bc sh.qC.length cc]:aK).toArray 41)) w2.heap.size [.int .i64 (sh.k:Int),.int .i64 (sh.n:Int),.int .i64 (sh.i:Int),.int .i64 (sh.c:Int),.slice bn sh.names.length cn,.slice bz sh.sizes.length cz,.slice bc sh.qC.length cc] 41:=ql.made w2 _ _;generalize PY:w2.alloc _=w3 at uQ zM⊢;clear PY;have N8:=zh.later g1 aev hnb;have Oh:=N8.later (S:=λ_=>False) (.qw uQ) N8.lt id;have RQ:AP w2 xb _ _:=ql.later hX0 g1 (ql.lt hX0) hxM;have hX3:AP w3 xb _ _:=ql.later RQ (S:=λ_=>False) (.qw uQ) (ql.lt RQ) id;have VY:CY w2:=(g1.cell (p:=⟨1,0,none⟩) auj (λx=>avN)).trans Z9;have hT3:CY w3:=VY.below uQ aut;have o1:=λ{e n:Nat}{v:ai}{xs:aK}(h:w2.ownsRow B e 1 v n xs)=>qY (w':=w3) h (λg hg=>uQ.block g (h.lt g hg).2);have F8:qG w.heap.size M w w3:=wR ((qG.qw xH).step g1 (λ_ _ x=>x)) uQ;have d1:=ql.cell hX3 (i:=1) rfl;have f1:=ql.frozen hX3 1
  go_upto_region 5 with(fail)
  have hX4:AP (w3.setCell ⟨xb,1,none⟩ (.pointer none)) xb (some ⟨xb,0,none⟩) none:=ql.set hX3 1 (.pointer none);have xX:qG w3.heap.size (· =xb) w3 (w3.setCell ⟨xb,1,none⟩ (.pointer none)):=(qG.refl w3.heap.size (· =xb) w3).setCell (p:=⟨xb,1,none⟩) (.inr rfl) (.pointer none);clear d1 f1 c1;generalize w3.setCell ⟨xb,1,none⟩ (.pointer none)=w4 at hX4 xX⊢;have hx4:=Oh.later xX Oh.lt ag;have Yw:=zM.later xX zM.lt aut;have hT4:CY w4:=(xX.cell (p:=⟨1,0,none⟩) aw5 (by show¬1=xb;omega)).trans hT3;have KA:=Ny w4
  go_upto_region 6 with(first|(go_at_call 11;(with_reducible refine KA.mono ?_);rintro q w5 ⟨rfl,g5⟩))
  have YE:=hx4.later (S:=λ_=>False) (.qw g5) hx4.lt id;have L6:=Yw.later (S:=λ_=>False) (.qw g5) Yw.lt id;have hX5:AP w5 xb _ _:=ql.later hX4 (S:=λ_=>False) (.qw g5) (ql.lt hX4) id;have Y_:qG w.heap.size (λk=>M k\/k=xb) w w5:=wR ((F8.mono (ay _) (λ_ x=>.inl x)).step xX (λ_ _ x=>.inr x)) g5;have c0:=YE.cell (i:=0) rfl;have c1:=YE.cell (i:=1) rfl;have c2:=YE.cell (i:=2) rfl;have c3:=YE.cell (i:=3) rfl;have c4:=YE.cell (i:=4) rfl;have c5:=YE.cell (i:=5) rfl;have c6:=YE.cell (i:=6) rfl;have f0:=YE.frozen;have d0:=L6.cell (i:=0) rfl;have d1:=L6.cell (i:=1) rfl;have d2:=L6.cell (i:=2) rfl;have d3:=L6.cell (i:=3) rfl;have d4:=L6.cell (i:=4) rfl;have d5:=L6.cell (i:=5) rfl;have d6:=L6.cell (i:=6) rfl;go_wp2;obtain⟨hF,hG⟩:=adw (b0:=.int .i64 (sh.k:Int)) (b1:=.int .i64 (sh.n:Int)) (b2:=.int .i64 (sh.i:Int)) (b3:=.int .i64 (sh.c:Int)) (b4:=.slice bn sh.names.length cn) (b5:=.slice bz sh.sizes.length cz) (b6:=.slice bc sh.qC.length cc) YE;have hX6:AP _ xb (some ⟨xb,0,none⟩) none:=ql.later hX5 hG (ql.lt hX5) ag;refine dS (w_ (p:=2) (u:=3) (t:=4) rfl _ _ w.heap.size 41 _ (0,0) _ aF hF underlying41 rfl ak) rfl ?_
  have o2:∀{e n:Nat}{v:ai}{xs:aK},w2.ownsRow B e 1 v n xs->e≠104->e≠41->World.ownsRow _ B e 1 v n xs:=λh h1 h2=>yJ YE hG (by
   have z1:=yJ hX3 xX (o1 h) h1;exact qY z1 (λg hg=>g5.block g (z1.lt g hg).2)) h2
  exact⟨Y_.step hG (λk hk e=>ag),hX6,_,_,_,rfl,o2 n1 aB aB,o2 n2 aB aB,o2 n3 aB aB⟩
end
section
variable (p:aj)(vp:ai)(w:ah)(hP:Pt w (λ_=>False) vp p)(hlen:p.length<=4611686018427387904)(uX:LQ w)(hPow:Pow w)(h16:5<=w.heap.size)(a:Addr)(hE:wU w a)(hT:CY w)
include hP hlen uX hPow h16 hE hT in
theorem ac5:Calls prog 9 #[vp] w λq w'=>xO p w q w':=by
 have xH:=(aO w.heap.size w).alloc (ay _) (.cells zD.toArray 41);have zh:ql (w.alloc (.cells zD.toArray 41)) w.heap.size zD 41:=ql.made w _ _;unfold zD sG at xH zh;unfold xO;cases Bh:qN p with
 |error e=>
  simp only;go_enter func9,ntmps9
  go_upto_region 1 with(fail)
  generalize Og:w.alloc _=w0 at xH zh⊢;clear Og;have Z9:=uX.below xH ag;have hP0:=hPow.belows xH h16;have hE0:=hE.belows xH;have hR0:CY w0:=hT.below xH ag;have ajR:Pt w0 (λ_=>False) vp p:=hP.later (S:=λ_=>False) (.qw xH) (λ_ x=>x) (λ_ _ x=>x);have KN:=MJ w0;have Ti:w.heap.size<w0.heap.size:=zh.lt
  go_upto_region 2 with(first|(go_at_call 19;(with_reducible refine KN.mono ?_);rintro q w1 ⟨xb,rb,rfl,n1,n2,n3,n4,n5⟩))
  have D5:=zh.later (S:=λ_=>False) (.qw n5) zh.lt id;have hn5:=n5.size
  have ajS:Pt w1 (qQ rb (.slice none 0 0) (.slice none 0 0)) vp p:=ajR.later (S:=λ_=>False) (.qw n5) (λ_ x=>x) (λk hk x=>by
   rcases x with h|h|h
   .omega
   .cases h
   .cases h)
  have hMr:∀k,qQ rb (.slice none 0 0) (.slice none 0 0) k->k=rb:=λk x=>by
   rcases x with h|h|h
   .exact h
   .cases h
   .cases h
  have hxr:xb≠rb:=by exact ayV
  have akR:=n2.lt;have KF:=abH w0.heap.size xb rb [] p (qQ rb (.slice none 0 0) (.slice none 0 0)) vp w1 n1 (λh=>hxr (hMr _ h)) (.live _ _ n2 (λ_ h=>h)) ajS au4 (Z9.below n5 ag) (hP0.belows n5 ag) ag n3 (λk h=>mV) a (hE0.belows n5) (hR0.below n5 ag);rw[dw]at KF;unfold O7 at KF
  go_upto_region 3 with(first|(go_at_call 20;(with_reducible refine KF.mono ?_);rintro q w2 ⟨rfl,g1,⟨M',g2,g3⟩,g4⟩))
  have SE:∀k,M' k->5<=k:=λk h=>by
   rcases bK k w1.heap.size with q|q
   .have:=hMr k ((g3 k h).2 q);omega
   .omega
  have ao9:=ql.lt n1;have hxM:¬M' xb:=λh=>hxr (hMr _ ((g3 xb h).2 ao9))
  have hbM:¬M' w.heap.size:=λh=>awY
  have N8:=D5.later g1 D5.lt (λh=>by have:=hMr _ h;omega);have hnM:∀k,k<5->¬qQ rb (.slice none 0 0) (.slice none 0 0) k:=λk hk h=>mV
  have KI:=Vl w0.heap.size xb rb p M' w2 g4 hxM ag g2 hlen ((Z9.below n5 ag).but g1 ag (hnM 3 ag)) ((hP0.belows n5 ag).but g1 (λk hk=>⟨ag,hnM k hk⟩)) ag n3 SE (λk h=>(g3 k h).1) a ((hE0.belows n5).but g1 ag (hnM 0 ag)) ((g1.cell (p:=⟨1,0,none⟩) auj (hnM 1 ag)).trans (hR0.below n5 ag));unfold TG at KI;rw[Bh]at KI;simp only at KI;have zJ:qG w.heap.size (λ_=>False) w w2:=(((qG.qw (xH.trans (n5.mono ag))):qG w.heap.size (λ_=>False) w w1)).step g1 (λk hk h=>mV);have hxw:¬w.heap.size=xb:=ag;clear KF KN Z9 hP0 hE0 hR0 ajR ajS n2
  go_wp2_with(first|(go_at_call 21;(with_reducible refine KI.mono ?_);rintro q w3 ⟨k1,k2,rfl⟩;unfold Bq sG;have Oh:=N8.later k1 N8.lt (λx=>x.elim hbM hxw);have c0:=Oh.cell (i:=0) rfl;have c1:=Oh.cell (i:=1) rfl;have c2:=Oh.cell (i:=2) rfl;have c3:=Oh.cell (i:=3) rfl;have c4:=Oh.cell (i:=4) rfl;have c5:=Oh.cell (i:=5) rfl;have c6:=Oh.cell (i:=6) rfl;have f0:=Oh.frozen))
  obtain⟨hF,hG⟩:=adw (b0:=.int .i64 0) (b1:=.int .i64 0) (b2:=.int .i64 0) (b3:=.int .i64 0) (b4:=.slice none 0 0) (b5:=.slice none 0 0) (b6:=.slice none 0 0) Oh
  have F8:qG w.heap.size (λ_=>False) w w3:=zJ.step k1 (λk hk h=>by
   rcases h with h|h
   .have:=hMr k ((g3 k h).2 ag);omega
   .omega)
  have hBB:=(F8.step hG (λk hk e=>ag)).below (λ_ _=>id);refine dS (w_ (p:=2) (u:=3) (t:=4) rfl _ _ w.heap.size 41 _ (0,0) _ aF hF underlying41 rfl ak) rfl ?_;exact⟨hBB,rfl⟩
 |ok sh=>
  simp only;go_enter func9,ntmps9
  go_upto_region 1 with(fail)
  generalize Og:w.alloc _=w0 at xH zh⊢;clear Og;have Z9:=uX.below xH ag;have hP0:=hPow.belows xH h16;have hE0:=hE.belows xH;have hR0:CY w0:=hT.below xH ag;have ajR:Pt w0 (λ_=>False) vp p:=hP.later (S:=λ_=>False) (.qw xH) (λ_ x=>x) (λ_ _ x=>x);have KN:=MJ w0;have Ti:w.heap.size<w0.heap.size:=zh.lt
  go_upto_region 2 with(first|(go_at_call 19;(with_reducible refine KN.mono ?_);rintro q w1 ⟨xb,rb,rfl,n1,n2,n3,n4,n5⟩))
  have D5:=zh.later (S:=λ_=>False) (.qw n5) zh.lt id;have hn5:=n5.size
  have ajS:Pt w1 (qQ rb (.slice none 0 0) (.slice none 0 0)) vp p:=ajR.later (S:=λ_=>False) (.qw n5) (λ_ x=>x) (λk hk x=>by
   rcases x with h|h|h
   .omega
   .cases h
   .cases h)
  have hMr:∀k,qQ rb (.slice none 0 0) (.slice none 0 0) k->k=rb:=λk x=>by
   rcases x with h|h|h
   .exact h
   .cases h
   .cases h
  have hxr:xb≠rb:=by exact ayV
  have akR:=n2.lt;have KF:=abH w0.heap.size xb rb [] p (qQ rb (.slice none 0 0) (.slice none 0 0)) vp w1 n1 (λh=>hxr (hMr _ h)) (.live _ _ n2 (λ_ h=>h)) ajS au4 (Z9.below n5 ag) (hP0.belows n5 ag) ag n3 (λk h=>mV) a (hE0.belows n5) (hR0.below n5 ag);rw[dw]at KF;unfold O7 at KF
  go_upto_region 3 with(first|(go_at_call 20;(with_reducible refine KF.mono ?_);rintro q w2 ⟨rfl,g1,⟨M',g2,g3⟩,g4⟩))
  have SE:∀k,M' k->5<=k:=λk h=>by
   rcases bK k w1.heap.size with q|q
   .have:=hMr k ((g3 k h).2 q);omega
   .omega
  have ao9:=ql.lt n1;have hxM:¬M' xb:=λh=>hxr (hMr _ ((g3 xb h).2 ao9))
  have hbM:¬M' w.heap.size:=λh=>awY
  have N8:=D5.later g1 D5.lt (λh=>by have:=hMr _ h;omega);have hnM:∀k,k<5->¬qQ rb (.slice none 0 0) (.slice none 0 0) k:=λk hk h=>mV
  have KI:=Vl w0.heap.size xb rb p M' w2 g4 hxM ag g2 hlen ((Z9.below n5 ag).but g1 ag (hnM 3 ag)) ((hP0.belows n5 ag).but g1 (λk hk=>⟨ag,hnM k hk⟩)) ag n3 SE (λk h=>(g3 k h).1) a ((hE0.belows n5).but g1 ag (hnM 0 ag)) ((g1.cell (p:=⟨1,0,none⟩) auj (hnM 1 ag)).trans (hR0.below n5 ag));unfold TG at KI;rw[Bh]at KI;simp only at KI;have zJ:qG w.heap.size (λ_=>False) w w2:=(((qG.qw (xH.trans (n5.mono ag))):qG w.heap.size (λ_=>False) w w1)).step g1 (λk hk h=>mV);have hxw:¬w.heap.size=xb:=ag;clear KF KN Z9 hP0 hE0 hR0 ajR ajS n2
  go_wp2_with(first|(go_at_call 21;(with_reducible refine KI.mono ?_);rintro q w3 ⟨k1,k2,vN,vS,vC,rfl,o1,o2,o3⟩;unfold sG;obtain⟨bn,cn,rfl⟩:=uB o1;obtain⟨bz,cz,rfl⟩:=uB o2;obtain⟨bc,cc,rfl⟩:=uB o3;have Oh:=N8.later k1 N8.lt (λx=>x.elim hbM hxw);have c0:=Oh.cell (i:=0) rfl;have c1:=Oh.cell (i:=1) rfl;have c2:=Oh.cell (i:=2) rfl;have c3:=Oh.cell (i:=3) rfl;have c4:=Oh.cell (i:=4) rfl;have c5:=Oh.cell (i:=5) rfl;have c6:=Oh.cell (i:=6) rfl;have f0:=Oh.frozen))
  obtain⟨hF,hG⟩:=adw (b0:=.int .i64 (sh.k:Int)) (b1:=.int .i64 (sh.n:Int)) (b2:=.int .i64 (sh.i:Int)) (b3:=.int .i64 (sh.c:Int)) (b4:=.slice bn sh.names.length cn) (b5:=.slice bz sh.sizes.length cz) (b6:=.slice bc sh.qC.length cc) Oh
  have F8:qG w.heap.size (λ_=>False) w w3:=zJ.step k1 (λk hk h=>by
   rcases h with h|h
   .have:=hMr k ((g3 k h).2 ag);omega
   .omega)
  have hBB:=(F8.step hG (λk hk e=>ag)).below (λ_ _=>id);refine dS (w_ (p:=2) (u:=3) (t:=4) rfl _ _ w.heap.size 41 _ (0,0) _ aF hF underlying41 rfl ak) rfl ?_;exact⟨hBB,_,_,_,rfl,BD (yJ Oh hG o1 aB) ag,BD (yJ Oh hG o2 aB) ag,BD (yJ Oh hG o3 aB) ag⟩
end
theorem qP.str{w:ah}{v:ai}{l:aj}(h:qP w v (rP l)):(convert 24 9 v).run prog w=.ok (.string ⟨l.toArray⟩) w:=by
 obtain⟨ba,cap,rfl,uF,hc⟩:=h;rw[ru]at uF⊢;by_cases h0:l=[]
 .subst h0;show(convert 24 9 (.slice ba 0 cap)).run prog w=_;rw[run_convert_bytes_string w 24 9 5 ba 0 cap underlying24 underlying5 underlying9];cases ba<;>rfl
 .have hp:0<l.length:=avZ.2 h0;obtain⟨b,off,rfl,_⟩:=hc 0 _ (wF hp);refine run_convert_bytes_back w 24 9 5 ⟨b,off,none⟩ cap l underlying24 underlying5 underlying9 (λj hj=>?_);obtain⟨b',akN,e,h2⟩:=hc j _ (wF hj);cases e;rw[Hg,h2];simp[sV,bQ hj]
theorem agr(va vb:ai)(l:aj)(w:ah)(ha:qP w va (rP l))(hb:qP w vb (rP l)):
  Calls prog 18 #[va,vb] w λe w'=>e=.returned (.bool true)/\w'=w:=by
 have h1:=ha.str;have h2:=hb.str;clear ha hb;go_enter func18,ntmps18;go_wp2;go_ret;exact⟨XJ aA,rfl⟩
theorem aa8(x:Int)(w:ah):
  Calls prog 7 #[.int .i64 x] w λe w'=>e=.returned (.int .i64 x)/\w'=w:=by
 go_enter func7,ntmps7;exact axd
structure atZ(w:ah)(s:vZ)(vN vS vC:ai):Prop where
 n:qP w vN (zC s.names)
 z:qP w vS (uH s.sizes)
 c:qP w vC (rP s.qC)
theorem aaR(a b:aj)(va vb:ai)(w:ah)(ha:qP w va (rP a))(hb:qP w vb (rP b)):
  Calls prog 54 #[va,vb] w λr w'=>r=.returned (.bool (a==b))/\w'=w:=by
 have s1:=ha.str;have s2:=hb.str;obtain⟨pa,ca,rfl⟩:=ha.len;obtain⟨pb,cb,rfl⟩:=hb.len;go_enter func54,ntmps54;exact axd
theorem YF(l:aj)(v:ai)(w:ah)(h:qP w v (rP l))(hl:l.length<=1048576):
  Calls prog 55 #[v] w λr w'=>∃v',r=.returned v'/\w'.ownsRow w.heap.size 5 1 v' l.length (rP l)/\Below w.heap.size w w':=by
 obtain⟨i0,zo,xY,wW,vV⟩:=cO Hy;obtain⟨ba,cap,rfl,uF,hc⟩:=h;have el:(rP l).length=l.length:=fV;have q22:∀(w:ah)(a:aW)(n c n' c':Nat),(binOp .eql 24 (.slice a n c) (.slice none n' c')).run prog w=.ok (.bool a.isNone) w:=λw a n c n' c'=>Lib.run_eql_slice_nil w _ _ a n c n' c' underlying24
 rw[el]at uF⊢;cases ba with
 |none=>
  obtain rfl:l=[]:=by
   rcases l with _|⟨x,l⟩
   .rfl
   .obtain⟨b,off,e,_⟩:=hc 0 _ rfl;cases e
  go_enter func55,ntmps55;go_wp2;go_ret;exact⟨_,rfl,bY _ _ _ _,aO _ _⟩
 |some ad=>
  have b1:Below w.heap.size w (w.alloc (.cells #[] 5)):=(aO _ _).alloc (ay _) _;have Fa:(w.alloc (.cells #[] 5)).ownsRow w.heap.size 5 1 (.slice (some ⟨w.heap.size,0,none⟩) 0 0) 0 []:=⟨rfl,.inr ⟨w.heap.size,0,#[],rfl,ay _,gU _ _,ay _,bT,rfl,rfl⟩⟩
  have apO:∀j u,(rP l)[j]?=some u->(w.alloc (.cells #[] 5)).cell? (ad.add j)=some u:=λj u hj=>by obtain⟨b,off,e,hcc⟩:=hc j u hj;cases e;rw[Addr.add_mid];exact(b1.cell (p:=⟨b,off+j,none⟩) (rY hcc)).trans hcc
  have h1:∀u∈rP l,u.oneCell'=true:=λu hu=>by obtain⟨x,_,rfl⟩:=gI.1 hu;rfl
  generalize E8:w.alloc (.cells #[] 5)=w1 at*;go_enter func55,ntmps55
  go_wp2_with(at_builtin;refine di _ rfl _ _ 24 rfl w.heap.size 5 i0 (.int .u8 0) 1 1 underlying24 zo xY wW vV rfl aB _ _ _ rfl Fa ad l.length cap (rP l) rfl fV apO h1 bT ag b1.size ?_;intro v' w5 Ae qA ahv)
  go_wp2;go_ret;exact⟨v',rfl,by simpa using Ae,b1.grown qA b1.size (λk hk=>by have e:w.heap.size=k:=gu hk;omega)⟩
end Go.Proofs.Y
namespace Go.Proofs
open Go.Shelf
def Tryz.aez:Go.Shelf.Ren:=⟨fun|14=>51|15=>73|n=>n,fun|26=>23|22=>24|3=>3|4=>4|0=>0|9=>9|20=>20|5=>5|n=>n,fun|n=>n⟩
theorem Tryz.aeA:Go.Proofs.SlLaysJ.n14 prog Tryz.aez:={
 mixed:=ak
 f14:=func51.trans (bI some ak)
 f15:=func73.trans (bI some ak)
 t0:=underlying0
 a0:=Tryz.isAgg0
 z0:=Tryz.sizeOf0
 v0:=Tryz.zeroValue0
 t3:=underlying3
 a3:=Tryz.isAgg3
 z3:=Tryz.sizeOf3
 v3:=Tryz.zeroValue3
 t4:=underlying4
 a4:=Tryz.isAgg4
 z4:=Tryz.sizeOf4
 v4:=Tryz.zeroValue4
 t9:=underlying9
 a9:=Tryz.isAgg9
 z9:=Tryz.sizeOf9
 v9:=Tryz.zeroValue9
 t20:=underlying20
 a20:=Tryz.isAgg20
 z20:=Tryz.sizeOf20
 v20:=Tryz.zeroValue20
 t22:=underlying24
 a22:=Tryz.isAgg24
 z22:=Tryz.sizeOf24
 v22:=Tryz.zeroValue24
 t26:=underlying23
 a26:=Tryz.isAgg23
 z26:=Tryz.sizeOf23
 v26:=Tryz.zeroValue23
 t5:=underlying5
 z5:=Tryz.sizeOf5
 i5:=ak}
end Go.Proofs
namespace Go.Proofs.Y
open Go.Proofs.Tryz
open Go.RowKit Go.Deep Go.Lib
theorem join_none(ls:List (aj)):Lib.join ls []=ls.flatten:=by
 unfold Lib.join
 induction ls with
 |nil=>rfl
 |cons x r ih=>
  cases r with
  |nil=>simp[List.intercalate]
  |cons y r=>
   simp only[List.intercalate,List.intersperse,o_,dw]at ih⊢;rw[ih]
theorem qP.fresh{B:Nat}{w:ah}{v:ai}{l:aj}(h:FreshBytes B w v l):qP w v (rP l):=by
 obtain⟨g,cap,zs,rfl,_,h2,_,h4,h5,h6,h7,_⟩:=h;have el:(rP l).length=l.length:=fV;refine⟨some ⟨g,0,none⟩,cap,by rw[el],by rw[el];exact h2,λj u hj=>⟨g,0,rfl,?_⟩⟩;have NZ:j<l.length:=by have:=(fB.1 hj).1;omega
 rw[bJ,h7 j ag,<-hj,wF NZ]
 congr 2
 have hz:0<=zs.getD j 0/\zs.getD j 0<256:=by
  have:zs.getD j 0∈zs:=by rw[bG,bQ ag];exact List.getElem_mem _
  exact h5 _ this
 have e1:l.getD j 0=UInt8.ofNat (zs.getD j 0).toNat:=by
  have:l[j]?=(bytesOf (zs.take l.length))[j]?:=by rw[h6]
  simp only[bytesOf,dV,nI,ax NZ]at this;rw[bG,bG,this,bQ ag];rfl
 rw[sV,e1];generalize zs.getD j 0=z at hz;simp only[jy];omega
structure aot(w:ah)(C K L:Nat)(dN:Nat->Nat)(ls:List (aj)):Prop where
 len:ls.length=K
 each:∀l∈ls,l.length=L
 N7:∀t,t<K->w.cell? ⟨C,t,none⟩=some (.slice (some ⟨dN t,0,none⟩) L L)
 byte:∀t l,ls[t]?=some l->∀m x,l[m]?=some x->w.cell? ⟨dN t,m,none⟩=some (.int .u8 (x.toNat:Int))
theorem afh{L:Nat}:∀(ls:List (aj)),(∀l∈ls,l.length=L)->Lib.lens ls=ls.length*L
 |[],_=>by simp[Lib.lens]
 |l::r,h=>by
  have:=afh r λx hx=>h x (nH _ hx)
  simp only[Lib.lens,je,nD,dQ,fP]at this⊢;rw[this,h l List.mem_cons_self,nC]
def Qe(v:ai)(n:Nat):Prop:=v=.slice none 0 0/\n=0\/∃b off cap,v=.slice (some ⟨b,off,none⟩) n cap/\n<=cap
theorem Qe.fresh{B:Nat}{w:ah}{v:ai}{l:aj}(h:FreshBytes B w v l):Qe v l.length:=by obtain⟨g,cap,zs,rfl,_,h2,_⟩:=h;exact .inr ⟨g,0,cap,rfl,h2⟩
theorem af8{w:ah}{C K L:Nat}{dN:Nat->Nat}{ls:List (aj)}(h:aot w C K L dN ls)(hK:0<K/\K<=128)(hL:L<=65536):
  Calls prog 51 #[.slice (some ⟨C,0,none⟩) K K,.slice none 0 0] w λr w'=>∃v,r=.returned v/\qP w' v (rP ls.flatten)/\Qe v ls.flatten.length/\Below w.heap.size w w':=by
 by_cases h2:2<=K
 .have hP:Lib.PartsAt w ⟨C,0,none⟩ ((List.range K).map λt=>.slice (some ⟨dN t,0,none⟩) L L) ls:=by
   refine⟨by simp[h.len],λi v hv=>?_,λi v l hv hl=>?_⟩
   .rw[dV]at hv;obtain⟨j,hj,rfl⟩:=dU.1 hv;have hi:=(fB.1 hj);obtain⟨h1,h3⟩:=hi;simp at h1 h3;subst h3;rw[Addr.add_mid,bJ];exact h.N7 i h1
   .rw[dV]at hv;obtain⟨j,hj,rfl⟩:=dU.1 hv;obtain⟨h1,h3⟩:=(fB.1 hj);simp at h1 h3;subst h3;refine⟨some ⟨dN i,0,none⟩,L,by rw[h.each l (jO hl)],(λe=>by cases e),λa ha m x hx=>?_⟩;cases ha;rw[Addr.add_mid,bJ];exact h.byte i l hl m x hx
  have hb:Lib.lens ls+([]:aj).length*(K-1)<=140737488355328:=by rw[afh ls h.each,h.len];have:K*L<=128*65536:=iI hK.2 hL;simp;omega
  have k:=Any.bytes_Join_many Tryz.aeA C 0 K K _ ls (.slice none 0 0) [] w h.len h2 hP (ay _) ⟨none,0,rfl,λ_=>rfl,(λa ha=>by cases ha)⟩ ag hb;refine k.mono ?_;rintro r w' ⟨v,rfl,hF,hB⟩;rw[join_none]at hF;exact⟨v,rfl,qP.fresh hF,Qe.fresh hF,hB⟩
 .obtain rfl:K=1:=ag;obtain⟨l0,rfl⟩:∃l0,ls=[l0]:=List.length_eq_one_iff.1 h.len;have e0:=h.each l0 aA;have c0:=h.N7 0 ag;have hf:[l0].flatten=l0:=aA;rw[hf];rcases gy L with h0|h0
  .subst h0;obtain rfl:l0=[]:=jQ e0;refine(Any.bytes_Join_one_empty Tryz.aeA C 0 1 (some ⟨dN 0,0,none⟩) 0 (.slice none 0 0) w c0).mono ?_;rintro r w' ⟨rfl,rfl⟩;exact⟨_,rfl,⟨none,0,rfl,ay _,λj u hj=>nV⟩,.inl ⟨rfl,rfl⟩,aO _ _⟩
  .rw[<-e0]at c0;refine(Any.bytes_Join_one Tryz.aeA C 0 1 ⟨dN 0,0,none⟩ l0.length l0 (.slice none 0 0) w c0 (λi x hx=>?_) ag ag).mono ?_
   .rw[Addr.add_mid,bJ];exact h.byte 0 l0 rfl i x hx
   .rintro r w' ⟨v,rfl,hF,hB⟩;exact⟨v,rfl,qP.fresh hF,Qe.fresh hF,hB⟩
end Go.Proofs.Y
namespace Go.Proofs.Y
open Go.Proofs.Tryz
open Go.RowKit Go.Deep
def pre(sz:aC)(i:Nat):Nat:=(sz.take i).sum
theorem Eh{sz:aC}{i:Nat}(h:i<sz.length):pre sz (i+1)=pre sz i+sz.getD i 0:=by unfold pre;rw[auP,jd,bQ h,bG,bQ h];simp
theorem Y8(sz:aC)(i:Nat):pre sz i<=sz.sum:=by unfold pre;have:=bI List.sum (oV i sz);rw[jd]at this;omega
def Oa(sz:aC)(l:aj)(i:Nat):aj:=(l.drop (pre sz i)).take (sz.getD i 0)
theorem Qg{w:ah}{b off n cap:Nat}{l:aj}(h:qP w (.slice (some ⟨b,off,none⟩) n cap) (rP l)){s t:Nat}(uw:s+t<=l.length)(c:Nat)(hc:t<=c):qP w (.slice (some ⟨b,off+s,none⟩) t c) (rP ((l.drop s).take t)):=by
 have el:((l.drop s).take t).length=t:=aJ;refine⟨some ⟨b,off+s,none⟩,c,by simp only[rP,jP,el],by simp only[rP,jP,el];exact hc,λj u hj=>⟨b,off+s,rfl,?_⟩⟩;have NZ:j<t:=by have:=(fB.1 hj).1;simp only[rP,jP,el]at this;exact this
 have e:(rP l)[s+j]?=some u:=by rw[<-hj];simp only[rP,dV,nI,ax NZ,auS]
 obtain⟨b',akN,e',V3⟩:=h.get e;cases e';rw[dO];exact V3
structure CB(ns:List (aj))(sz:aC)(l:aj)(g i:Nat)(vd:Nat->ai)(w:ah):Prop where
 row:w.rowIs g 63 (ns.length*2) (λp=>if p/2<i then(if p%2=0 then Np (ns.getD (p/2) [])else vd (p/2))else(if p%2=0 then Np []else .slice none 0 0))
 dat:∀j,j<i->w.ownsRow (g+1) 5 1 (vd j) (Oa sz l j).length (rP (Oa sz l j))
theorem CB.more{ns:List (aj)}{sz:aC}{l:aj}{g i:Nat}{vd:Nat->ai}{w w2:ah}{v':ai}(h:CB ns sz l g i vd w)(hi:i<ns.length)(hg:g<w.heap.size)(hb:Below w.heap.size w w2)(ho:w2.ownsRow w.heap.size 5 1 v' (Oa sz l i).length (rP (Oa sz l i))):
  CB ns sz l g (i+1) (λj=>if j=i then v' else vd j) ((w2.setCell ⟨g,i*2,none⟩ (Np (ns.getD i []))).setCell ⟨g,i*2+1,none⟩ v')/\(∃u,w2.cell? ⟨g,i*2,none⟩=some u)/\w2.frozen? ⟨g,i*2,none⟩=false/\(∃u,(w2.setCell ⟨g,i*2,none⟩ (Np (ns.getD i []))).cell? ⟨g,i*2+1,none⟩=some u)/\(w2.setCell ⟨g,i*2,none⟩ (Np (ns.getD i []))).frozen? ⟨g,i*2+1,none⟩=false:=by
 have r:=h.row.of_block (hb.block g hg);have r1:=r.set (i*2) (Np (ns.getD i []));have r2:=r1.set (i*2+1) v';refine⟨⟨r2.congr λp hp=>?_,λj hj=>?_⟩,⟨_,r.cell (i:=i*2) ag⟩,r.frozen _,⟨_,r1.cell (i:=i*2+1) ag⟩,r1.frozen _⟩
 .by_cases e1:p=i*2+1
  .subst e1;rw[ax rfl,ax ag,au ag,ax ag]
  .rw[au e1];by_cases e2:p=i*2
   .subst e2;rw[ax rfl,ax ag,ax ag,show i*2/2=i by omega]
   .rw[au e2];by_cases e3:p/2<i
    .simp only[e3,show p/2<i+1 by omega,show¬p/2=i by omega,aY,bU]
    .simp only[e3,show¬p/2<i+1 by omega,bU]
 .have key:∀{v:ai}{m:Nat}{xs:aK},w2.ownsRow (g+1) 5 1 v m xs->((w2.setCell ⟨g,i*2,none⟩ (Np (ns.getD i []))).setCell ⟨g,i*2+1,none⟩ v').ownsRow (g+1) 5 1 v m xs:=λo=>dR (dR o (a:=⟨g,i*2,none⟩) (dZ g) _) (a:=⟨g,i*2+1,none⟩) (dZ g) _
  by_cases e:j=i
  .subst e;rw[ax rfl];exact key (ho.mono ag)
  .rw[au e];exact key (xw (h.dat j ag) hb (ay _))
theorem qP.owned{w:ah}{B n:Nat}{v:ai}{xs:aK}{t:aG}(h:w.ownsRow B t 1 v n xs):qP w v xs:=by
 obtain⟨hl,h⟩:=h;rw[ja]at hl;rcases h with⟨rfl,rfl⟩|⟨g,cap,cur,rfl,h2,h3,h4,h5,h6,h7⟩
 .exact⟨none,0,nZ,ag,λj u hj=>by rw[jQ hl]at hj;simp at hj⟩
 .refine⟨some ⟨g,0,none⟩,cap,nZ,ag,λj u hj=>⟨g,0,rfl,?_⟩⟩;have NZ:=(fB.1 hj).1;rw[ja]at h7;rw[bJ,<-hj,<-h7,nI,ax ag];simp[World.cell?,h3]
theorem Ru(n:Nat)(hn:n<=1048576)(w:ah):(Instr.makeSlice 25 (.int .i64 (n:Int)) (.int .i64 (n:Int))).run prog w=.ok (.slice (some ⟨w.heap.size,0,none⟩) n n) (w.alloc (.cells (madeCells #[.string ⟨#[]⟩,.slice none 0 0] (n*2)) 63)):=by obtain⟨i0,zo,xY,wW,vV⟩:=cO Tryz.UJ;have:=kC (P:=prog) w 25 63 i0 _ underlying25 zo xY .i64 .i64 n n ag ag jv ag;exact axA
theorem CB.start(ns:List (aj))(sz:aC)(l:aj)(w:ah):CB ns sz l w.heap.size 0 (λ_=>undef) (w.alloc (.cells (madeCells #[.string ⟨#[]⟩,.slice none 0 0] (ns.length*2)) 63)):=by
 refine⟨?_,λj hj=>absurd hj ag⟩
 have:=World.rowIs_alloc w (madeCells #[.string ⟨#[]⟩,.slice none 0 0] (ns.length*2)) 63 (λp=>if p/2<0 then(if p%2=0 then Np (ns.getD (p/2) [])else undef)else(if p%2=0 then Np []else .slice none 0 0)) (λi hi=>by rw[jw]at hi;rw[au ag];rcases avW i with e|e<;>simp[madeCells,hi,e,Np])
 rw[jw]at this;exact this
theorem agT(ns:List (aj))(sz:aC)(l:aj)(vN vS:ai)(b off cap:Nat)(w:ah)(hN:qP w vN (uU ns))(hS:qP w vS (uH sz))(hD:qP w (.slice (some ⟨b,off,none⟩) l.length cap) (rP l))(uF:l.length<=cap)(Je:ns.length<=sz.length)(hsum:sz.sum<=l.length)(hn:ns.length<=1048576)(hl:l.length<=1048576):
  Calls prog 26 #[vN,vS,.slice (some ⟨b,off,none⟩) l.length cap] w λr w'=>Below w.heap.size w w'/\∃vd,r=.returned (.slice (some ⟨w.heap.size,0,none⟩) ns.length ns.length)/\CB ns sz l w.heap.size ns.length vd w':=by
 obtain⟨pn,cn,rfl⟩:=hN.len;obtain⟨ps,cs,rfl⟩:=hS.len;rw[xx]at hN⊢;rw[yE]at hS⊢;have mk:=Ru ns.length hn w;have h0:=CB.start ns sz l w;have b0:Below w.heap.size w (w.alloc (.cells (madeCells #[.string ⟨#[]⟩,.slice none 0 0] (ns.length*2)) 63)):=(aO _ _).alloc (ay _) _;go_enter func26,ntmps26;go_wp2;generalize w.alloc (.cells (madeCells #[.string ⟨#[]⟩,.slice none 0 0] (ns.length*2)) 63)=w0 at*;generalize hg:w.heap.size=g at*
 go_loopw [2,8,9,15] (λv2 _ _ vi wr=>∃(i:Nat)(vd:Nat->ai)(o':Nat),i<=ns.length/\vi=.int .i64 (i:Int)/\v2=.slice (some ⟨b,o',none⟩) (l.length-pre sz i) (cap-pre sz i)/\(pre sz i<l.length->o'=off+pre sz i)/\Below g w wr/\CB ns sz l g i vd wr/\g<wr.heap.size) (λ_ _ _ vi _=>ns.length-(intOf vi).toNat)
 case atStart=>exact⟨0,_,off,ag,rfl,QO,λ_=>QO,b0,h0,by have:=h0.row.lt;omega⟩
 case round=>
  clear h0 b0;obtain⟨i,vd,o',hi,rfl,rfl,ho',hb,hC,hgs⟩:=hrel;by_cases qB:i<ns.length
  .have akR:(i:Int)<(ns.length:Int):=ag;have Ku:(i:Int)<(sz.length:Int):=ag;have QI:pre sz i+sz.getD i 0<=pre sz (i+1):=fA (Eh ag).symm;have BJ:=Y8 sz (i+1);obtain⟨gn,on,rfl,c1⟩:=hN.get (Aq qB);obtain⟨gs,os,rfl,c2⟩:=hS.get (Dx (l:=sz) (j:=i) ag);have lt1:=rY c1;have lt2:=rY c2;replace c1:=(hb.cell (p:=⟨gn,on+i,none⟩) (by rw[<-hg];exact lt1)).trans c1;replace c2:=(hb.cell (p:=⟨gs,os+i,none⟩) (by rw[<-hg];exact lt2)).trans c2;have hD1:=hD.aa0 hb ag
   have YC:qP wr (.slice (some ⟨b,o',none⟩) (sz.getD i 0) (cap-pre sz i)) (rP (Oa sz l i)):=by
    rcases gy (sz.getD i 0)with hq|hq
    .unfold Oa;rw[hq];exact⟨_,_,rfl,iH _,λj u hj=>nV⟩
    .rw[ho' ag];exact Qg hD1 (s:=pre sz i) (t:=sz.getD i 0) ag (cap-pre sz i) ag
   have k1:=YF (Oa sz l i) _ wr YC (by unfold Oa;simp;omega);have I8:=λw2 v' rq ho=>hC.more (w2:=w2) (v':=v') qB hgs rq ho
   have Ai:((sz.getD i 0:Nat):Int)<=((cap-pre sz i:Nat):Int):=ag;have Gn:((sz.getD i 0:Nat):Int)<=((l.length-pre sz i:Nat):Int):=ag;have C_:l.length-pre sz i-sz.getD i 0=l.length-pre sz (i+1)/\cap-pre sz i-sz.getD i 0=cap-pre sz (i+1):=by have:=Eh (sz:=sz) (i:=i) ag;omega
   have arF:pre sz (i+1)<l.length->o'+sz.getD i 0=off+pre sz (i+1):=λh=>by have:=Eh (sz:=sz) (i:=i) ag;have:=ho' ag;omega
   have hz:cap-pre sz i<=sz.getD i 0->l.length<=pre sz (i+1):=λh=>ag
   clear ho' hN hS hD1 YC hC;generalize pre sz i=p at*;generalize sz.getD i 0=q at*;generalize l.length-p=n1 at*;generalize cap-p=n2 at*;unfold Np at I8;generalize ns.getD i []=nm at c1 I8
   go_wp2_with(first|(go_at_call 55;(with_reducible refine k1.mono ?_);rintro r w2 ⟨v',rfl,ho,rq⟩;obtain⟨bq,cq,rfl⟩:=(qP.owned ho).len;obtain⟨hC2,⟨_,d1⟩,d2,⟨_,d3⟩,d4⟩:=I8 w2 _ rq ho;have d5:=(rq.cell (p:=⟨gs,os+i,none⟩) aw_).trans c2))
   have uQ:Below g w ((w2.setCell ⟨g,i*2,none⟩ (.string ⟨nm.toArray⟩)).setCell ⟨g,i*2+1,none⟩ (.slice bq (rP (Oa sz l i)).length cq)):=((hb.trans (rq.mono (jJ hgs))).setCell (p:=⟨g,i*2,none⟩) (ay _) _).setCell (p:=⟨g,i*2+1,none⟩) (ay _) _;have zM:g<((w2.setCell ⟨g,i*2,none⟩ (.string ⟨nm.toArray⟩)).setCell ⟨g,i*2+1,none⟩ (.slice bq (rP (Oa sz l i)).length cq)).heap.size:=by have:=rq.size;simp;omega
   generalize(w2.setCell ⟨g,i*2,none⟩ (.string ⟨nm.toArray⟩)).setCell ⟨g,i*2+1,none⟩ (.slice bq (rP (Oa sz l i)).length cq)=w3 at*;refine⟨?_,jV⟩;by_cases he:n2=q
   .rw[ax he];exact⟨i+1,_,o',ag,aA,aF,λh=>by have:=hz ag;omega,uQ,hC2,zM⟩
   .rw[au he];exact⟨i+1,_,o'+q,ag,aA,aF,arF,uQ,hC2,zM⟩
  .obtain rfl:i=ns.length:=ag;have E5:¬((ns.length:Int)<(ns.length:Int)):=ag;go_wp2;go_ret
   first|exact⟨hb,rfl,vd,hC⟩|exact⟨by rw[hg];exact hb,vd,by rw[hg];rfl,by rw[hg];exact hC⟩
theorem agU(ns:List (aj))(sz:aC)(vN vS:ai)(w:ah)(hN:qP w vN (uU ns))(hS:qP w vS (uH sz))(Je:ns.length<=sz.length)(hsz:∀i,i<sz.length->sz.getD i 0=0)(hn:ns.length<=1048576):
  Calls prog 26 #[vN,vS,.slice none 0 0] w λr w'=>Below w.heap.size w w'/\∃vd,r=.returned (.slice (some ⟨w.heap.size,0,none⟩) ns.length ns.length)/\CB ns sz [] w.heap.size ns.length vd w':=by
 obtain⟨pn,cn,rfl⟩:=hN.len;obtain⟨ps,cs,rfl⟩:=hS.len;rw[xx]at hN⊢;rw[yE]at hS⊢;have mk:=Ru ns.length hn w;have h0:=CB.start ns sz [] w;have b0:Below w.heap.size w (w.alloc (.cells (madeCells #[.string ⟨#[]⟩,.slice none 0 0] (ns.length*2)) 63)):=(aO _ _).alloc (ay _) _;go_enter func26,ntmps26;go_wp2;generalize w.alloc (.cells (madeCells #[.string ⟨#[]⟩,.slice none 0 0] (ns.length*2)) 63)=w0 at*;generalize hg:w.heap.size=g at*
 go_loopw [2,8,9,15] (λv2 _ _ vi wr=>∃(i:Nat)(vd:Nat->ai),i<=ns.length/\vi=.int .i64 (i:Int)/\v2=.slice none 0 0/\Below g w wr/\CB ns sz [] g i vd wr/\g<wr.heap.size) (λ_ _ _ vi _=>ns.length-(intOf vi).toNat)
 case atStart=>exact⟨0,_,ag,rfl,rfl,b0,h0,by have:=h0.row.lt;omega⟩
 case round=>
  clear h0 b0;obtain⟨i,vd,hi,rfl,rfl,hb,hC,hgs⟩:=hrel;by_cases qB:i<ns.length
  .have akR:(i:Int)<(ns.length:Int):=ag;have Ku:(i:Int)<(sz.length:Int):=ag;obtain⟨gn,on,rfl,c1⟩:=hN.get (Aq qB);obtain⟨gs,os,rfl,c2⟩:=hS.get (Dx (l:=sz) (j:=i) ag);have lt1:=rY c1;have lt2:=rY c2;rw[hsz i ag,show((0:Nat):Int)=0 from rfl]at c2;replace c1:=(hb.cell (p:=⟨gn,on+i,none⟩) (by rw[<-hg];exact lt1)).trans c1;replace c2:=(hb.cell (p:=⟨gs,os+i,none⟩) (by rw[<-hg];exact lt2)).trans c2;have ep:Oa sz [] i=[]:=by simp[Oa]
   have k1:=YF [] (.slice none 0 0) wr ⟨none,0,rfl,ay _,λj u hj=>nV⟩ aA;have I8:=λw2 v' rq ho=>hC.more (w2:=w2) (v':=v') qB hgs rq ho
   rw[ep]at I8;clear hN hS hC;unfold Np at I8;generalize ns.getD i []=nm at c1 I8
   go_wp2_with(first|(go_at_call 55;(with_reducible refine k1.mono ?_);rintro r w2 ⟨v',rfl,ho,rq⟩;obtain⟨bq,cq,rfl⟩:=(qP.owned ho).len;obtain⟨hC2,⟨_,d1⟩,d2,⟨_,d3⟩,d4⟩:=I8 w2 _ rq ho;have d5:=(rq.cell (p:=⟨gs,os+i,none⟩) aw_).trans c2))
   have uQ:Below g w ((w2.setCell ⟨g,i*2,none⟩ (.string ⟨nm.toArray⟩)).setCell ⟨g,i*2+1,none⟩ (.slice bq (rP []).length cq)):=((hb.trans (rq.mono (jJ hgs))).setCell (p:=⟨g,i*2,none⟩) (ay _) _).setCell (p:=⟨g,i*2+1,none⟩) (ay _) _;have zM:g<((w2.setCell ⟨g,i*2,none⟩ (.string ⟨nm.toArray⟩)).setCell ⟨g,i*2+1,none⟩ (.slice bq (rP []).length cq)).heap.size:=by have:=rq.size;simp;omega
   exact⟨⟨i+1,_,ag,aA,rfl,uQ,hC2,zM⟩,jV⟩
  .obtain rfl:i=ns.length:=ag;have E5:¬((ns.length:Int)<(ns.length:Int)):=ag;go_wp2;go_ret
   first|exact⟨hb,rfl,vd,hC⟩|exact⟨by rw[hg];exact hb,vd,by rw[hg];rfl,by rw[hg];exact hC⟩
