import Derived.Test.YtnbflnamlpodcaaGreatDoorDeB
set_option maxHeartbeats 8000000
set_option maxRecDepth 100000
namespace Go.Proofs.Y
open Go.RowKit Go.Deep Go.Lf Go.Conc Go.ConcN Go.Gh
open Go.ConcR (Payload WgAt wgBlock)
theorem UT{Fin:Machine->Trace->Prop}(hpre:∀m m' ops t,stepT Tryz.prog m=(.next m',ops)->Fin m' (t++ops)->Fin m t){X:Nat->Prop}{Y:Nat->Option Obj}{e:Nat}{gs:Array Goroutine}{W v0:World}{sl:Option (Nat×Nat)}{t:Trace}{qq:Nat->Nat}{fr:Frame}{cs:List Frame}{K M bc oc cap:Nat}{q:CL}{bd od:Nat->Nat}{yv:Nat->Nat->Nat}
  (h0:gs[0]?=some (G ((base 67).at ⟨#[.int .i64 (K:Int),.slice (some ⟨bc,oc,none⟩) M cap]++Array.replicate 67 undef,[]⟩ [.code FX]) (fr::cs))) (hB:Fz Tryz.prog (uj X) e gs W t qq) (hs:qH X Y W v0)
  (hK:0<K/\K<=128) (hKM:K<=M) (hcap:M<=cap) (hx:∀i,i<K->q.ix i<128) (hC:CO v0 bc oc K q) (hinj:∀i j,i<K->j<K->i≠j->q.ix i≠q.ix j) (hS:DO v0 K q bd od yv) (hno:∀i,i<K->¬X (bd i)) (hL:q.L<=65536) (he:e+K<2147483648)
  (hnext:∀(e':Nat)(σ:Nat->Nat)(B:Nat->Nat->F)(C Wg:Nat)(dN:Nat->Nat)(gs':Array Goroutine)(W':World)(sl':Option (Nat×Nat))(t':Trace)(q':Nat->Nat)(Y':Nat->Option Obj)(v':World),e'<=e+K->IZ K q.ix σ->(∃A,F.Gj K (mF K λs=>q.ix (σ s)) K A B)->gs'[0]?=some (G (fr.finish (.slice (some ⟨C,0,none⟩) K K)) cs)->
   Fz Tryz.prog (uj λb=>X b\/b=Wg) e' gs' W' t' q'->qH (λb=>X b\/b=Wg) Y' W' v'->W.heap.size<=Wg->Sub v0 v'->KpX X W W'->
   (∀t,t<K->v'.cell? ⟨C,t,none⟩=some (.slice (some ⟨dN t,0,none⟩) q.L q.L)/\∀m,m<q.L->v'.cell? ⟨dN t,m,none⟩=some (.int .u8 (((xF K B yv σ t m).val:Nat):Int)))->Fin (crowd gs' W' sl') t'):
  Fin (crowd gs W sl) t:=by
 have hs':=hs;obtain⟨τ0,dd0,hs0⟩:=hs';have hX2:∀b,X b->b<v0.heap.size:=λb hb=>hs0.bound b (.inl hb)
 refine late (Fin:=Fin) (Shun:=uj X) (e:=e) (Stop:=λgr W=>∃(σ:Nat->Nat)(bp AY bD bv h2 ba C:Nat)(b2:Nat->Nat)(B:Nat->Nat->F)(T:Array Value)(v3:World),gr=G ((base 67).at ⟨T,[]⟩ [.code c12]) (fr::cs)/\qH X Y W v3/\ag_ bp K AY bv ba T/\PH K q σ bp AY bD bv h2 ba C b2 B v3/\(∀b,b<v0.heap.size->b<C)/\(v0.heap.size<=bp/\v0.heap.size<=AY/\v0.heap.size<=bD/\v0.heap.size<=bv/\v0.heap.size<=h2/\∀t,t<K->v0.heap.size<=b2 t)/\rJ v0.heap.size v0 v3) hpre (λ_ _ _ h=>h) (λgs1 a1 W1 sl1 t1 q1 h01 hst hB1=>?_)
  (Wx (yO X) (cs:=fr::cs) (Y:=Y) hK hKM hcap hx hC hinj (λσ bp AY bD bv h2 ba C b2 B T w1 a1 a2 a3 a4 a5 w hw=>.stop λdd=>⟨σ,bp,AY,bD,bv,h2,ba,C,b2,B,T,w1,rfl,hw.at dd,a1,a2,a3,a4,a5⟩) W hs) W.drawn gs sl t qq h0 hB
 obtain⟨σ,bp,AY,bD,bv,h2,ba,Cc,b2,B,T,v3,rfl,hW1,hTP,Xw,hlow,hge,L_⟩:=hst W1.drawn;replace hW1:qH X Y W1 v3:=hW1;letI:qN:=⟨X⟩;obtain⟨n1,n2,n3,n4,n5,n6,n7,n8⟩:=Xw.new;have hsz1:W1.heap.size=v3.heap.size:=by obtain⟨_,_,h⟩:=hW1;exact h.size
 have aei:Fz Tryz.prog (Ef W1.heap.size) e gs1 W1 t1 q1:=hB1.more (λl h=>.inr h) (λl h=>h.elim (λ⟨a,ea,ya⟩=>.inr ⟨a,ea,dS ya.symm⟩) .inl);obtain⟨T',hTW,hG⟩:=WB (D:=DM (Ef W1.heap.size)) (λn w h=>⟨h,ai⟩) (cs:=fr::cs) W1 hTP;refine late (Fin:=Fin) (Shun:=Ef W1.heap.size) (e:=e) hpre (λ_ _ _ h=>h) (λgs2 a2 W2 sl2 t2 q2 h02 hst2 hB2=>?_) (hG (λgr w=>gr=G ((base 67).at ⟨T',[]⟩ [.code xQ]) (fr::cs)/\∃dd d',w=((W1.at dd).alloc (wgBlock link.tWg 0 0)).at d') (λdd d'=>⟨rfl,dd,d',rfl⟩)) W1.drawn gs1 sl1 t1 q1 h01 aei;obtain⟨rfl,dd,d',hW2⟩:=hst2 W2.drawn;replace hW2:W2=((W1.at dd).alloc (wgBlock link.tWg 0 0)).at d':=hW2;generalize Tf:W1.heap.size=Wg at*
 have hS2:qH X Y W2 (v3.alloc (wgBlock link.tWg 0 0)):=by exact aqx
 have hz2:W2.heap.size=Wg+1:=aoD
 have hg2:W2.heap[Wg]?=some (wgBlock link.tWg 0 0):=by exact aqN
 have hl2:∀b,b<Wg->W2.heap[b]?=W1.heap[b]?:=λb hb=>by exact aqO
 obtain⟨τ2,dd2,xk⟩:=hS2;have hPF:=(Xw.alloc (wgBlock link.tWg 0 0)).tp τ2 dd2;have hb3:rJ v0.heap.size v0 {v3.alloc (wgBlock link.tWg 0 0)with tape:=τ2,drawn:=dd2}:=(L_.trans (rJ.of ((aA v3.heap.size v3).alloc (ak _) _)) L_.size').tp τ2 dd2;generalize({v3.alloc (wgBlock link.tWg 0 0)with tape:=τ2,drawn:=dd2}:World)=v4 at xk hPF hb3;letI:Payload:=⟨34⟩;letI:wU:=⟨W2.output,W2.os⟩;have aej:Nj (AZ K q.L q σ bd od yv bp AY bD bv h2 ba b2 B (λb=>W2.heap[b]?)) K q.L:=ahg hK ae (λt ht=>hx _ (Xw.pl.lt t ht)) hS.yl;have hSF:=aen (lw:=v0.heap.size) (L:=q.L) rfl hX2 hX2 hge xk hS hno rfl hb3 hlow hPF hz2 ae;have hSp:=aem (cs:=fr::cs) aej (hTW _ rfl rfl rfl rfl rfl rfl) hSF;have anr:=aaY (AZ K q.L q σ bd od yv bp AY bD bv h2 ba b2 B (λb=>W2.heap[b]?)) K 0;refine UR (Fin:=Fin) (ty:=link.tWg) hpre h02 hB2 (λb hb=>?_) (di _) ae ae ae hg2 hSF.pay hSp ⟨λ_ _ _ _ r h=>Q9.rely h r,λ_ _ _ _ r h=>KR.rely h r⟩ ae rfl rfl (λids gs3 a3 W3 lb sl3 t3 q3 h03 ho hos hwk hK3 hp hres hB3=>?_)
 .have:=hX2 b hb;have:=hlow b this;omega
 obtain⟨T1,s0,j,ops,rfl,hTS,JG,zy⟩:=hK3;have Py:∀b,b<Wg->b≠Cc->W3.heap[b]?=W2.heap[b]?:=λb hb hc=>JG.low.Py b ae ae hc
 have hXC:∀b,X b->b<Wg/\b≠Cc:=λb hb=>by have h1:=hX2 b hb;have:=hlow b h1;omega
 obtain⟨Y',v',hs3,hk'⟩:=OJ W3 (λb=>X b\/b=Wg) (λb hb=>by
  rcases hb with hb|rfl
  .exact aqC
  .obtain⟨st,sm,hw⟩:=hwk;exact⟨_,_,hw⟩)
 obtain⟨⟨dN,hd⟩,hba⟩:=ajj xk hz2 ae hK hx hS hlow hPF hk' hX2 JG zy hres
 have hblk:∀{b:Nat}{c:Array Value}{ty:TypeId}{fz:Nat×Nat},v0.heap[b]?=some (.cells c ty fz)->v'.heap[b]?=some (.cells c ty fz):=λ{b c ty fz} h=>by
  have h1:b<v0.heap.size:=(a_.1 h).1;have h2:=hlow b h1;have h3:v4.heap[b]?=some (.cells c ty fz):=(hb3.blk h1).trans h;by_cases hx:X b
  .exact aqS
  .exact aqK
 have e1:v'.heap.size=W3.heap.size:=hs3.size.symm;have e2:Wg+1<=W3.heap.size:=aK JG.sb.2.1 JG.sb.2.2;have akQ:v0.heap.size<=v3.heap.size:=L_.size';have hD':uo (λb=>X b\/b=Wg) (DM (Ef Wg)):=UO λl h=>h.elim (λ⟨a,ea,ya⟩=>⟨a,ea,.inr ya⟩) (λ⟨a,ea,ya⟩=>⟨a,ea,.inl ya⟩)
 refine late (Fin:=Fin) (Shun:=Ef Wg) (e:=e+PG (AZ K q.L q σ bd od yv bp AY bD bv h2 ba b2 B (λb=>W2.heap[b]?)) 0 K) (Stop:=λgr w=>gr=G (fr.finish (.slice (some ⟨Cc,0,none⟩) K K)) cs/\qH (λb=>X b\/b=Wg) Y' w v') hpre (λ_ _ _ h=>h) (λgs4 a4 W4 sl4 t4 q4 h04 aek hB4=>?_) (ajk (X:=λb=>X b\/b=Wg) (Y:=Y') hD' hTS hba (λτ dd w1 hw1=>.stop λd6=>⟨rfl,hw1.at d6⟩) W3 hs3.t) W3.drawn gs3 sl3 t3 q3 h03 hB3;obtain⟨rfl,hs5⟩:=aek W4.drawn;replace hs5:qH (λb=>X b\/b=Wg) Y' W4 v':=hs5;refine hnext _ σ B Cc Wg dN gs4 W4 sl4 t4 q4 Y' v' ae Xw.pl Xw.gj h04 (hB4.more (λl h=>h.elim (λ⟨a,ea,ya⟩=>⟨a,ea,.inr ya⟩) (λ⟨a,ea,ya⟩=>⟨a,ea,.inl ya⟩)) (λl ⟨a,ea,ya⟩=>.inl (ya.elim (λy=>.inr ⟨a,ea,y⟩) (λy=>.inl ⟨a,ea,y⟩)))) hs5 ?_ ⟨ae,λb c ty fz hx=>hblk hx⟩ ?_ hd
 .exact aqy
 .have hz0:W.heap.size=v0.heap.size:=hs0.size;obtain⟨τ5,d5,JH⟩:=hs5;obtain⟨τ1,d1,hs1'⟩:=hW1;have z5:W4.heap.size=v'.heap.size:=JH.size;refine⟨?_,?_,ae,λb hb hx=>?_⟩
  .exact arj
  .exact aqX
  .exact aq4
theorem UU{Fin:Machine->Trace->Prop}(hpre:∀m m' ops t,stepT Tryz.prog m=(.next m',ops)->Fin m' (t++ops)->Fin m t){X:Nat->Prop}{Y:Nat->Option Obj}{e:Nat}{gs:Array Goroutine}{W v0:World}{sl:Option (Nat×Nat)}{t:Trace}{qq:Nat->Nat}{fr:Frame}{cs:List Frame}{K N:Nat}{l:List UInt8}{vd:Value}
  (h0:gs[0]?=some (G ((base 29).at ⟨#[.int .i64 ((K:Nat):Int),.int .i64 ((N:Nat):Int),vd]++Array.replicate 23 undef,[]⟩ [.code xW]) (fr::cs))) (hB:Fz Tryz.prog (uj X) e gs W t qq) (hs:qH X Y W v0)
  (hk0:1<=K) (hkn:K<=N) (hn:N<=128) (hjl:l.length<=65536) (hv:Lies v0 vd (rF l)) (he:e+N<2147483648)
  (hnext:∀(C Wg:Nat)(dN:Nat->Nat)(gs':Array Goroutine)(W':World)(sl':Option (Nat×Nat))(t':Trace)(q':Nat->Nat)(Y':Nat->Option Obj)(v':World),gs'[0]?=some (G (fr.finish (.slice (some ⟨C,0,none⟩) N N)) cs)->
   Fz Tryz.prog (uj λb=>X b\/b=Wg) (e+N) gs' W' t' q'->qH (λb=>X b\/b=Wg) Y' W' v'->W.heap.size<=Wg->v0.heap.size<=C->Sub v0 v'->KpX X W W'->
   (∀t,t<N->v'.cell? ⟨C,t,none⟩=some (.slice (some ⟨dN t,0,none⟩) (sF K l.length) (sF K l.length))/\v'.heap[dN t]?=some (.cells (rF (zn K (sF K l.length) l t)).toArray 5))->Fin (crowd gs' W' sl') t'):
  Fin (crowd gs W sl) t:=by
 have hs':=hs;obtain⟨τ0,dd0,hs0⟩:=hs';have hX2:∀b,X b->b<v0.heap.size:=λb hb=>hs0.bound b (.inl hb)
 refine late (Fin:=Fin) (Shun:=uj X) (e:=e) (Stop:=λgr W=>∃(bk bd Pp Ff ba C:Nat)(T:Array Value)(v3:World),gr=G ((base 29).at ⟨T,[]⟩ [.code gc3]) (fr::cs)/\qH X Y W v3/\TPc bk bd ba T/\PFc K N (sF K l.length) l bk bd Pp Ff ba C v3/\(∀b,b<v0.heap.size->b<C)/\(v0.heap.size<=bk/\v0.heap.size<=bd/\v0.heap.size<=Pp/\v0.heap.size<=Ff)/\rJ v0.heap.size v0 v3) hpre (λ_ _ _ h=>h) (λgs1 a1 W1 sl1 t1 q1 h01 hst hB1=>?_)
  (Nq (yO X) (cs:=fr::cs) (Y:=Y) hk0 hkn hn hjl hv (λbk bd Pp Ff ba C T w1 a1 a2 a3 a4 a5 w hw=>.stop λdd=>⟨bk,bd,Pp,Ff,ba,C,T,w1,rfl,hw.at dd,a1,a2,a3,a4,a5⟩) W hs) W.drawn gs sl t qq h0 hB
 obtain⟨bk,bd,Pp,Ff,ba,Cc,T,v3,rfl,hW1,hTP,Xw,hlow,hge,L_⟩:=hst W1.drawn;replace hW1:qH X Y W1 v3:=hW1;letI:qN:=⟨X⟩;obtain⟨n1,n2,n3,n4,n5,n6⟩:=Xw.new;have hsz1:W1.heap.size=v3.heap.size:=by obtain⟨_,_,h⟩:=hW1;exact h.size
 have aei:Fz Tryz.prog (Ef W1.heap.size) e gs1 W1 t1 q1:=hB1.more (λl h=>.inr h) (λl h=>h.elim (λ⟨a,ea,ya⟩=>.inr ⟨a,ea,dS ya.symm⟩) .inl);obtain⟨T',hTW,hG⟩:=PL (D:=DM (Ef W1.heap.size)) (λn w h=>⟨h,ai⟩) (cs:=fr::cs) W1 hTP;refine late (Fin:=Fin) (Shun:=Ef W1.heap.size) (e:=e) hpre (λ_ _ _ h=>h) (λgs2 a2 W2 sl2 t2 q2 h02 hst2 hB2=>?_) (hG (λgr w=>gr=G ((base 29).at ⟨T',[]⟩ [.code yJ]) (fr::cs)/\∃dd d',w=((W1.at dd).alloc (wgBlock link.tWg 0 0)).at d') (λdd d'=>⟨rfl,dd,d',rfl⟩)) W1.drawn gs1 sl1 t1 q1 h01 aei;obtain⟨rfl,dd,d',hW2⟩:=hst2 W2.drawn;replace hW2:W2=((W1.at dd).alloc (wgBlock link.tWg 0 0)).at d':=hW2;generalize Tf:W1.heap.size=Wg at*
 have hS2:qH X Y W2 (v3.alloc (wgBlock link.tWg 0 0)):=by exact aqx
 have hz2:W2.heap.size=Wg+1:=aoD
 have hg2:W2.heap[Wg]?=some (wgBlock link.tWg 0 0):=by exact aqN
 have hl2:∀b,b<Wg->W2.heap[b]?=W1.heap[b]?:=λb hb=>by exact aqO
 obtain⟨τ2,dd2,xk⟩:=hS2;have hPF:=(Xw.alloc (wgBlock link.tWg 0 0)).tp τ2 dd2;have hb3:rJ v0.heap.size v0 {v3.alloc (wgBlock link.tWg 0 0)with tape:=τ2,drawn:=dd2}:=(L_.trans (rJ.of ((aA v3.heap.size v3).alloc (ak _) _)) L_.size').tp τ2 dd2;generalize({v3.alloc (wgBlock link.tWg 0 0)with tape:=τ2,drawn:=dd2}:World)=v4 at xk hPF hb3;letI:Payload:=⟨34⟩;letI:wU:=⟨W2.output,W2.os⟩;have hLb:=B_ (k:=K) ae l.length;have aej:LH (Fj K (sF K l.length) l bk bd Pp Ff ba (λb=>W2.heap[b]?)) K N (sF K l.length):=aaU ae ae ae;have hSF:=Ti (lw:=v0.heap.size) rfl hX2 hX2 hge xk hPF hz2 ae;have hSp:=Tj (cs:=fr::cs) aej (hTW _ rfl rfl rfl) hSF;refine UR (Fin:=Fin) (ty:=link.tWg) hpre h02 hB2 (λb hb=>?_) (di _) ae ae ae hg2 hSF.pay hSp ⟨λ_ _ _ _ r h=>Q9.rely h r,λ_ _ _ _ r h=>KC.rely h r⟩ he rfl rfl (λids gs3 a3 W3 lb sl3 t3 q3 h03 ho hos hwk hK3 hp hres hB3=>?_)
 .have:=hX2 b hb;have:=hlow b this;omega
 obtain⟨T1,s0,j,ops,rfl,hTS,JG,zy⟩:=hK3;have Py:∀b,b<Wg->b≠Cc->W3.heap[b]?=W2.heap[b]?:=λb hb hc=>JG.low.Py b ae ae hc
 have hXC:∀b,X b->b<Wg/\b≠Cc:=λb hb=>by have h1:=hX2 b hb;have:=hlow b h1;omega
 obtain⟨Y',v',hs3,hk'⟩:=OJ W3 (λb=>X b\/b=Wg) (λb hb=>by
  rcases hb with hb|rfl
  .exact aqC
  .obtain⟨st,sm,hw⟩:=hwk;exact⟨_,_,hw⟩)
 obtain⟨⟨dN,hd⟩,_,hba⟩:=aaV xk hz2 ae hb3 hlow hPF hk' hX2 JG zy hres
 have hblk:∀{b:Nat}{c:Array Value}{ty:TypeId}{fz:Nat×Nat},v0.heap[b]?=some (.cells c ty fz)->v'.heap[b]?=some (.cells c ty fz):=λ{b c ty fz} h=>by
  have h1:b<v0.heap.size:=(a_.1 h).1;have h2:=hlow b h1;have h3:v4.heap[b]?=some (.cells c ty fz):=(hb3.blk h1).trans h;by_cases hx:X b
  .exact aqS
  .exact aqK
 have e1:v'.heap.size=W3.heap.size:=hs3.size.symm;have e2:Wg+1<=W3.heap.size:=aK JG.sb.2.1 JG.sb.2.2;have akQ:v0.heap.size<=v3.heap.size:=L_.size';have hD':uo (λb=>X b\/b=Wg) (DM (Ef Wg)):=UO λl h=>h.elim (λ⟨a,ea,ya⟩=>⟨a,ea,.inr ya⟩) (λ⟨a,ea,ya⟩=>⟨a,ea,.inl ya⟩)
 refine late (Fin:=Fin) (Shun:=Ef Wg) (e:=e+N) (Stop:=λgr w=>gr=G (fr.finish (.slice (some ⟨Cc,0,none⟩) N N)) cs/\qH (λb=>X b\/b=Wg) Y' w v') hpre (λ_ _ _ h=>h) (λgs4 a4 W4 sl4 t4 q4 h04 aek hB4=>?_) (aiu (X:=λb=>X b\/b=Wg) (Y:=Y') hD' hTS hba (λτ dd w1 hw1=>.stop λd6=>⟨rfl,hw1.at d6⟩) W3 hs3.t) W3.drawn gs3 sl3 t3 q3 h03 hB3;obtain⟨rfl,hs5⟩:=aek W4.drawn;replace hs5:qH (λb=>X b\/b=Wg) Y' W4 v':=hs5;refine hnext Cc Wg dN gs4 W4 sl4 t4 q4 Y' v' h04 (hB4.more (λl h=>h.elim (λ⟨a,ea,ya⟩=>⟨a,ea,.inr ya⟩) (λ⟨a,ea,ya⟩=>⟨a,ea,.inl ya⟩)) (λl ⟨a,ea,ya⟩=>.inl (ya.elim (λy=>.inr ⟨a,ea,y⟩) (λy=>.inl ⟨a,ea,y⟩)))) hs5 ?_ ?_ ⟨ae,λb c ty fz hx=>hblk hx⟩ ?_ (λt ht=>⟨(hd t ht).1,apR⟩)
 .exact aqy
 .rcases eG v0.heap.size with h|h
  .omega
  .have:=hlow (v0.heap.size-1) ae;omega
 .have hz0:W.heap.size=v0.heap.size:=hs0.size;obtain⟨τ5,d5,JH⟩:=hs5;obtain⟨τ1,d1,hs1'⟩:=hW1;have z5:W4.heap.size=v'.heap.size:=JH.size;refine⟨?_,?_,ae,λb hb hx=>?_⟩
  .exact arj
  .exact aqX
  .exact aq4
end Go.Proofs.Y
namespace Go.Proofs.Y
open Go.RowKit Go.Deep Go.Hp
section
variable {c:qQ->List Value}{s:Nat}
def xX(c:qQ->List Value)(n:Nat)(f:Nat->qQ):List Value:=(List.range n).flatMap λi=>c (f i)
theorem yC(n:Nat)(f:Nat->qQ):xX c (n+1) f=xX c n f++c (f n):=by unfold xX;rw[dm,l9];simp
theorem ug(hc:∀e,(c e).length=s)(n:Nat)(f:Nat->qQ):(xX c n f).length=n*s:=by
 induction n with
 |zero=>simp[xX]
 |succ n ih=>rw[yC,aQ,ih,hc,eU]
theorem Mc(hc:∀e,(c e).length=s){n i p:Nat}(f:Nat->qQ)(hi:i<n)(hp:p<s):(xX c n f)[i*s+p]?=(c (f i))[p]?:=by
 induction n with
 |zero=>omega
 |succ n ih=>
  rw[yC];by_cases e:i=n
  .subst e;rw[iO kY,ug hc,gX]
  .have:i*s+s<=n*s:=by rw[<-eU];exact jb s ae
   rw[eY kY,ih ae]
theorem NL{n:Nat}{f g:Nat->qQ}(h:∀i,i<n->f i=g i):xX c n f=xX c n g:=by
 induction n with
 |zero=>rfl
 |succ n ih=>rw[yC,yC,ih λi hi=>h i ae,h n ae]
def acx(xs:List Value)(p:Nat):List Value->List Value
 |[]=>xs
 |v::r=>acx (xs.set p v) (p+1) r
theorem Xx:∀(vs xs:List Value)(p m:Nat),p+vs.length<=xs.length->(acx xs p vs)[m]?=if p<=m/\m<p+vs.length then vs[m-p]? else xs[m]?
 |[],xs,p,m,_=>by rw[acx,ah ai]
 |v::r,xs,p,m,h=>by
  simp only[bM]at h⊢;rw[acx,Xx r _ _ _ (by rw[List.length_set];omega)];by_cases e:m=p
  .subst e;rw[ah ae,aj ae,kG,aj rfl,aj ae,jY];rfl
  .by_cases e2:p<=m/\m<p+(r.length+1)
   .rw[aj ae,aj e2,show m-p=(m-(p+1))+1 by omega];rfl
   .rw[ah ae,ah e2,List.getElem?_set_ne (λx=>e x.symm)]
theorem acy(hc:∀e,(c e).length=s){n i:Nat}(f:Nat->qQ)(hi:i<n)(e:qQ):acx (xX c n f) (i*s) (c e)=xX c n (λx=>if x=i then e else f x):=by
 have hle:i*s+s<=n*s:=apS;apply jg;intro m;rw[Xx _ _ _ _ (by rw[hc,ug hc];exact hle),hc];by_cases hm:m<n*s
 .have hs:0<s:=Nat.pos_of_ne_zero λe=>by rw[e]at hm;simp at hm
  have hq:m=m/s*s+m%s:=by rw[fZ];exact(nI m s).symm
  have hp:=gW m hs;have hqn:m/s<n:=(anL hs).2 hm;generalize m/s=q at*;generalize m%s=p at*;subst hq;rw[Mc hc f hqn hp,Mc hc _ hqn hp];by_cases e1:q=i
  .subst e1;rw[aj ⟨ae,ae⟩,aj rfl,gX]
  .rw[ah,ah e1];rintro⟨h1,h2⟩;rcases Nat.lt_or_gt_of_ne e1 with h|h
   .have:q*s+s<=i*s:=apT;omega
   .have:i*s+s<=q*s:=apT;omega
 .rw[ah ae,gZ kY,gZ kY]
theorem TR{B t s g cap n:Nat}:∀(vs:List Value)(p:Nat)(xs:List Value)(w:World),w.ownsRow B t s (.slice (some ⟨g,0,none⟩) n cap) n xs->(w.setCells g p vs).ownsRow B t s (.slice (some ⟨g,0,none⟩) n cap) n (acx xs p vs)
 |[],_,_,_,h=>h
 |v::r,p,_,_,h=>TR r (p+1) _ _ (h.stored p v).1
theorem xu(hc:∀e,(c e).length=s){w:World}{B t g cap n i:Nat}{f:Nat->qQ}(h:w.ownsRow B t s (.slice (some ⟨g,0,none⟩) n cap) n (xX c n f))(hi:i<n):w.rangeAt g (i*s) (c (f i)):=λj v hv=>by have hj:=(dH.1 hv).1;rw[hc]at hj;have:i*s+s<=n*s:=apS;rw[h.cellAt _ ae,Mc hc _ hi hj];exact hv
end
def yD(e:qQ):Nat:=(e.k.headD 0).toNat
def Sg(n:Nat)(f:Nat->qQ):Prop:=∀i,i<n->∃b,(f i).k=[b]
theorem ZO{e e':qQ}(h:∃b,e.k=[b])(h':∃b,e'.k=[b]):Hp.lt e.k e'.k=decide (((yD e:Nat):Int)<((yD e':Nat):Int)):=by obtain⟨a,ha⟩:=h;obtain⟨b,hb⟩:=h';simp only[yD,ha,hb,List.headD_cons,Hp.lt,Op.bytesLess,Bool.and_false,Bool.or_false,Int.ofNat_lt,iq]
structure Oq(S:Nat->List Value):Prop where
 len:∀i,(S i).length=7
 one:∀i,∀u∈S i,u.oneCell'=true
def GG(S:Nat->List Value)(e:qQ):List Value:=.int .i64 ((yD e:Nat):Int)::S e.l
theorem uN{S:Nat->List Value}(h:Oq S)(e:qQ):(GG S e).length=8:=by simp[GG,h.len]
theorem afA{S:Nat->List Value}(h:Oq S)(e:qQ):∀u∈GG S e,u.oneCell'=true:=by
 intro u hu;rcases dw.1 hu with rfl|hu
 .rfl
 .exact h.one _ u hu
structure HI(S:Nat->List Value)(B h n:Nat)(f:Nat->qQ)(v:Value)(w:World):Prop where
 var:w.rowIs h 132 1 (λ_=>v)
 own:w.ownsRow B 184 8 v n (xX (GG S) n f)
 low:h<B
 sg:Sg n f
section
variable {S:Nat->List Value}{B h n:Nat}{f:Nat->qQ}{v:Value}{w:World}
theorem HI.form(H:HI S B h n f v w)(hn:0<n):∃g cap,v=.slice (some ⟨g,0,none⟩) n cap/\B<=g/\n<=cap/\cap<=maxLen:=by
 rcases H.own.2 with⟨_,rfl⟩|⟨g,cap,cur,h1,h2,h3,h4,h5,_⟩
 .omega
 .exact⟨g,cap,h1,h2,h4,h5⟩
theorem HI.slice(H:HI S B h n f v w):∃bo cap,v=.slice bo n cap:=by exact aqs
theorem HI.key(hS:Oq S){g cap:Nat}(H:HI S B h n f (.slice (some ⟨g,0,none⟩) n cap) w){i:Nat}(hi:i<n):w.cell? ⟨g,i*8,none⟩=some (.int .i64 ((yD (f i):Nat):Int)):=xu (uN hS) H.own hi 0 _ rfl
theorem HI.drew(H:HI S B h n f v w)(m:Nat):HI S B h n f v (w.drewN m):=⟨H.var,H.own,H.low,H.sg⟩
theorem NM(hS:Oq S)(B h n i j:Nat)(f:Nat->qQ)(v:Value)(w:World)(H:HI S B h n f v w)(hij:j<n->i<n)(hj:j<4611686018427387904):
  Calls Tryz.prog 125 #[.pointer (some ⟨h,0,none⟩),.int .i64 ((i:Nat):Int),.int .i64 ((j:Nat):Int)] w λe w'=>e=.returned (.int .i64 ((Jf n f i j:Nat):Int))/\∃m,w'=w.drewN m:=by
 have a0:=H.var.cell (i:=0) ae;by_cases hjn:j<n
 .obtain⟨g,cap,rfl,hg,hnc,hcm⟩:=H.form ae;have hd:decide ((j:Int)<(n:Int))=true:=az;have hj':(j:Int)<(n:Int):=ae;have hi':(i:Int)<(n:Int):=by have:=hij hjn;omega
  have cj:=H.key hS hjn;have ci:=H.key hS (hij hjn);have hq:=ZO (H.sg j hjn) (H.sg i (hij hjn));have hr:Jf n f i j=if Hp.lt (f j).k (f i).k then j else i:=by unfold Jf;simp[hjn]
  rw[hr,hq];clear H hij hr hq;by_cases hk:((yD (f j):Nat):Int)<((yD (f i):Nat):Int)
  .have hk':decide (((yD (f j):Nat):Int)<((yD (f i):Nat):Int))=true:=ik hk;rw[hk',aj rfl];go_enter Tryz.func125,Tryz.ntmps125
   go_wp2_with fail
   go_big_quiet (fail)
   exact aqh
  .have hk':decide (((yD (f j):Nat):Int)<((yD (f i):Nat):Int))=false:=dO hk;rw[hk',ah ai];go_enter Tryz.func125,Tryz.ntmps125
   go_wp2_with fail
   go_big_quiet (fail)
   exact aqh
 .have hr:Jf n f i j=i:=ao9;rw[hr];have hd:decide ((j:Int)<(n:Int))=false:=az;obtain⟨bo,cap,rfl⟩:=H.slice;clear H hij;go_enter Tryz.func125,Tryz.ntmps125
  go_wp2_with fail
  go_big_quiet (fail)
  exact aqh
theorem GH{o:Option Nat}{a:World}{g:Nat}(hg:o=some g):∀(vs:List Value)(p:Nat)(w:World),Bt o a w->Bt o a (w.setCells g p vs)
 |[],_,_,h=>h
 |v::r,p,_,h=>GH hg r (p+1) _ (h.set hg v)
theorem Md{b g:Nat}{t:TypeId}{n:Nat}{f:Nat->Value}(hne:b≠g):∀(vs:List Value)(p:Nat)(w:World),w.rowIs b t n f->(w.setCells g p vs).rowIs b t n f
 |[],_,_,h=>h
 |v::r,p,_,h=>Md hne r (p+1) _ (h.setOther (a:=⟨g,p,none⟩) hne v)
theorem HI.Xy(H:HI S B h n f v w):HI S B h n f v w.drew:=⟨H.var,H.own,H.low,H.sg⟩
theorem Bt.Xy{o:Option Nat}{a w:World}(h:Bt o a w):Bt o a w.drew:=⟨h.os,h.tape,h.output,h.size,h.block⟩
theorem HI.put(hS:Oq S){g cap i:Nat}(H:HI S B h n f (.slice (some ⟨g,0,none⟩) n cap) w)(hi:i<n)(hg:B<=g){e:qQ}(he:∃b,e.k=[b]):HI S B h n (λx=>if x=i then e else f x) (.slice (some ⟨g,0,none⟩) n cap) (w.setCells g (i*8) (GG S e)):=by
 have hne:h≠g:=by have:=H.low;omega
 refine⟨Md hne _ _ _ H.var,?_,H.low,λx hx=>?_⟩
 .rw[<-acy (uN hS) f hi e];exact TR _ _ _ _ H.own
 .split
  .exact he
  .exact H.sg x hx
theorem swp_eq(f:Nat->qQ)(i j:Nat):(λx=>if x=j then f i else if x=i then f j else f x)=swp f i j:=by
 funext x
 unfold swp;by_cases e1:x=i
 .by_cases e2:x=j
  .rw[aj e2,aj e1,<-e1,<-e2]
  .rw[ah e2,aj e1,aj e1]
 .rw[ah e1,ah e1]
theorem ZP{w:World}{B t g cap n o:Nat}{xs:List Value}(H:w.ownsRow B t 8 (.slice (some ⟨g,0,none⟩) n cap) n xs)(ho:o+8<=n*8)(x0 x1 x2 x3 x4 x5 x6 _x7:Value):
  ((∃y,w.cell? ⟨g,o,none⟩=some y)/\w.frozen? ⟨g,o,none⟩=false)/\((∃y,(w.setCell ⟨g,o,none⟩ x0).cell? ⟨g,o+1,none⟩=some y)/\(w.setCell ⟨g,o,none⟩ x0).frozen? ⟨g,o+1,none⟩=false)/\((∃y,((w.setCell ⟨g,o,none⟩ x0).setCell ⟨g,o+1,none⟩ x1).cell? ⟨g,o+2,none⟩=some y)/\((w.setCell ⟨g,o,none⟩ x0).setCell ⟨g,o+1,none⟩ x1).frozen? ⟨g,o+2,none⟩=false)/\((∃y,(((w.setCell ⟨g,o,none⟩ x0).setCell ⟨g,o+1,none⟩ x1).setCell ⟨g,o+2,none⟩ x2).cell? ⟨g,o+3,none⟩=some y)/\(((w.setCell ⟨g,o,none⟩ x0).setCell ⟨g,o+1,none⟩ x1).setCell ⟨g,o+2,none⟩ x2).frozen? ⟨g,o+3,none⟩=false)/\((∃y,((((w.setCell ⟨g,o,none⟩ x0).setCell ⟨g,o+1,none⟩ x1).setCell ⟨g,o+2,none⟩ x2).setCell ⟨g,o+3,none⟩ x3).cell? ⟨g,o+4,none⟩=some y)/\((((w.setCell ⟨g,o,none⟩ x0).setCell ⟨g,o+1,none⟩ x1).setCell ⟨g,o+2,none⟩ x2).setCell ⟨g,o+3,none⟩ x3).frozen? ⟨g,o+4,none⟩=false)/\((∃y,(((((w.setCell ⟨g,o,none⟩ x0).setCell ⟨g,o+1,none⟩ x1).setCell ⟨g,o+2,none⟩ x2).setCell ⟨g,o+3,none⟩ x3).setCell ⟨g,o+4,none⟩ x4).cell? ⟨g,o+5,none⟩=some y)/\(((((w.setCell ⟨g,o,none⟩ x0).setCell ⟨g,o+1,none⟩ x1).setCell ⟨g,o+2,none⟩ x2).setCell ⟨g,o+3,none⟩ x3).setCell ⟨g,o+4,none⟩ x4).frozen? ⟨g,o+5,none⟩=false)/\((∃y,((((((w.setCell ⟨g,o,none⟩ x0).setCell ⟨g,o+1,none⟩ x1).setCell ⟨g,o+2,none⟩ x2).setCell ⟨g,o+3,none⟩ x3).setCell ⟨g,o+4,none⟩ x4).setCell ⟨g,o+5,none⟩ x5).cell? ⟨g,o+6,none⟩=some y)/\((((((w.setCell ⟨g,o,none⟩ x0).setCell ⟨g,o+1,none⟩ x1).setCell ⟨g,o+2,none⟩ x2).setCell ⟨g,o+3,none⟩ x3).setCell ⟨g,o+4,none⟩ x4).setCell ⟨g,o+5,none⟩ x5).frozen? ⟨g,o+6,none⟩=false)/\((∃y,(((((((w.setCell ⟨g,o,none⟩ x0).setCell ⟨g,o+1,none⟩ x1).setCell ⟨g,o+2,none⟩ x2).setCell ⟨g,o+3,none⟩ x3).setCell ⟨g,o+4,none⟩ x4).setCell ⟨g,o+5,none⟩ x5).setCell ⟨g,o+6,none⟩ x6).cell? ⟨g,o+7,none⟩=some y)/\(((((((w.setCell ⟨g,o,none⟩ x0).setCell ⟨g,o+1,none⟩ x1).setCell ⟨g,o+2,none⟩ x2).setCell ⟨g,o+3,none⟩ x3).setCell ⟨g,o+4,none⟩ x4).setCell ⟨g,o+5,none⟩ x5).setCell ⟨g,o+6,none⟩ x6).frozen? ⟨g,o+7,none⟩=false):=by
 have k:∀(w:World)(xs:List Value)(p:Nat),w.ownsRow B t 8 (.slice (some ⟨g,0,none⟩) n cap) n xs->p<n*8->(∃y,w.cell? ⟨g,p,none⟩=some y)/\w.frozen? ⟨g,p,none⟩=false:=λw xs p o hp=>⟨⟨xs[p]' aos,aor⟩,o.frozenAt p⟩
 have h1:=(H.stored (o) x0).1;have h2:=(h1.stored (o+1) x1).1;have h3:=(h2.stored (o+2) x2).1;have h4:=(h3.stored (o+3) x3).1;have h5:=(h4.stored (o+4) x4).1;have h6:=(h5.stored (o+5) x5).1;have h7:=(h6.stored (o+6) x6).1;exact⟨k _ _ _ H ae,k _ _ _ h1 ae,k _ _ _ h2 ae,k _ _ _ h3 ae,k _ _ _ h4 ae,k _ _ _ h5 ae,k _ _ _ h6 ae,k _ _ _ h7 ae⟩
theorem eight{l:List Value}(h:l.length=7):∃a b c d e x y,l=[a,b,c,d,e,x,y]:=by
 match l,h with
 |[a,b,c,d,e,x,y],_=>exact⟨a,b,c,d,e,x,y,rfl⟩
theorem wK(u:Value)(h:u.oneCell'=true)(w:World)(a:Addr):(store a u).run Tryz.prog w=stored Tryz.prog w a u .plain:=run_store Tryz.prog w a u .plain h
theorem DX{a b c d e x y:Value}(h:∀u∈[a,b,c,d,e,x,y],u.oneCell'=true):
  (∀w p,(store p a).run Tryz.prog w=stored Tryz.prog w p a .plain)/\(∀w p,(store p b).run Tryz.prog w=stored Tryz.prog w p b .plain)/\(∀w p,(store p c).run Tryz.prog w=stored Tryz.prog w p c .plain)/\(∀w p,(store p d).run Tryz.prog w=stored Tryz.prog w p d .plain)/\(∀w p,(store p e).run Tryz.prog w=stored Tryz.prog w p e .plain)/\(∀w p,(store p x).run Tryz.prog w=stored Tryz.prog w p x .plain)/\(∀w p,(store p y).run Tryz.prog w=stored Tryz.prog w p y .plain):=
 ⟨wK a (h a ai),wK b (h b ai),wK c (h c ai),wK d (h d ai),wK e (h e ai),wK x (h x ai),wK y (h y ai)⟩
theorem Qm{w:World}{g o:Nat}{a b c d e x y z:Value}(h:w.rangeAt g o [a,b,c,d,e,x,y,z]):w.cell? ⟨g,o,none⟩=some a/\w.cell? ⟨g,o+1,none⟩=some b/\w.cell? ⟨g,o+2,none⟩=some c/\w.cell? ⟨g,o+3,none⟩=some d/\w.cell? ⟨g,o+4,none⟩=some e/\w.cell? ⟨g,o+5,none⟩=some x/\w.cell? ⟨g,o+6,none⟩=some y/\w.cell? ⟨g,o+7,none⟩=some z:=
 ⟨h 0 _ rfl,h 1 _ rfl,h 2 _ rfl,h 3 _ rfl,h 4 _ rfl,h 5 _ rfl,h 6 _ rfl,h 7 _ rfl⟩
theorem TT(hS:Oq S)(B h n i j:Nat)(f:Nat->qQ)(v:Value)(w:World)(H:HI S B h n f v w)(hi:i<n)(hj:j<n):
  Calls Tryz.prog 124 #[.pointer (some ⟨h,0,none⟩),.int .i64 ((i:Nat):Int),.int .i64 ((j:Nat):Int)] w λe w'=>e=.returned (.tuple #[])/\HI S B h n (swp f i j) v w'/\Bt v.ownBlock w w':=by
 obtain⟨g,cap,rfl,hg,hnc,hcm⟩:=H.form ae;have hi':(i:Int)<(n:Int):=ae;have hj':(j:Int)<(n:Int):=ae;have a0:=H.var.cell (i:=0) ae;have ri:=xu (uN hS) H.own hi;have rj:=xu (uN hS) H.own hj;have H1:=H.put hS hi hg (H.sg j hj);have H2:=H1.put hS hj hg (H.sg i hi);have hb:=GH (o:=some g) rfl (GG S (f i)) (j*8) _ (GH (o:=some g) rfl (GG S (f j)) (i*8) w (Bt.refl _ _));rw[swp_eq]at H2;have o0:=H.own;have o1:=H1.own;simp only[GG]at ri rj H2 hb o1;have sa:=hS.one (f i).l;have sb:=hS.one (f j).l;obtain⟨a1,a2,a3,a4,a5,a6,a7,ea⟩:=eight (hS.len (f i).l);obtain⟨b1,b2,b3,b4,b5,b6,b7,eb⟩:=eight (hS.len (f j).l);rw[ea]at ri H2 hb sa;rw[eb]at rj H2 hb o1 sb;have tk:=λ(n:Int)=>wK (.int .i64 n) rfl;obtain⟨t1,t2,t3,t4,t5,t6,t7⟩:=DX sa;obtain⟨v1,v2,v3,v4,v5,v6,v7⟩:=DX sb;obtain⟨p0,p1,p2,p3,p4,p5,p6,p7⟩:=Qm ri;obtain⟨q0,q1,q2,q3,q4,q5,q6,q7⟩:=Qm rj;obtain⟨⟨-,z0⟩,⟨⟨_,c1⟩,z1⟩,⟨⟨_,c2⟩,z2⟩,⟨⟨_,c3⟩,z3⟩,⟨⟨_,c4⟩,z4⟩,⟨⟨_,c5⟩,z5⟩,⟨⟨_,c6⟩,z6⟩,⟨_,c7⟩,z7⟩:=ZP o0 (o:=i*8) ae (.int .i64 ((yD (f j):Nat):Int)) b1 b2 b3 b4 b5 b6 b7;obtain⟨⟨⟨_,d0⟩,y0⟩,⟨⟨_,d1⟩,y1⟩,⟨⟨_,d2⟩,y2⟩,⟨⟨_,d3⟩,y3⟩,⟨⟨_,d4⟩,y4⟩,⟨⟨_,d5⟩,y5⟩,⟨⟨_,d6⟩,y6⟩,⟨_,d7⟩,y7⟩:=ZP o1 (o:=j*8) ae (.int .i64 ((yD (f i):Nat):Int)) a1 a2 a3 a4 a5 a6 a7;simp only[World.setCells,dB,Nat.reduceAdd]at d0 d1 d2 d3 d4 d5 d6 d7 y0 y1 y2 y3 y4 y5 y6 y7 H2 hb;clear H H1 o0 o1 ri rj ea eb sa sb;generalize yD (f i)=ka at*;generalize yD (f j)=kb at*;go_enter Tryz.func124,Tryz.ntmps124;go_wp2;go_region;go_end0;refine⟨rfl,?_,?_⟩
 .with_reducible exact H2.Xy
 .show Bt (some g) w _
  with_reducible exact hb.Xy
end
section
variable {S:Nat->List Value}
def aiy(S:Nat->List Value)(B h n:Nat)(f:Nat->qQ)(v:Value)(w:World)(e:Ending)(w':World):Prop:=e=.returned (.tuple #[])/\∃f',HI S B h n f' v w'/\qK n f f'/\Hp f' n/\Bt v.ownBlock w w'
theorem Xz(hS:Oq S)(B h n i:Nat)(f:Nat->qQ)(v:Value)(w:World)(H:HI S B h n f v w)(hi:i<n)(hu:Xq f n i):
  Calls Tryz.prog 103 #[.pointer (some ⟨h,0,none⟩),.int .i64 ((i:Nat):Int)] w λe w'=>aiy S B h n f v w e w':=by
 obtain⟨g,cap,rfl,hg,hnc,hcm⟩:=H.form ae;have hcm':cap<=9223372036854775807:=hcm;clear hcm;go_enter Tryz.func103,Tryz.ntmps103;go_wp2
 go_loopw [1,4] (λvi _ wr=>∃(i:Nat)(f':Nat->qQ),i<n/\vi=.int .i64 ((i:Nat):Int)/\HI S B h n f' (.slice (some ⟨g,0,none⟩) n cap) wr/\qK n f f'/\Xq f' n i/\Bt (some g) w wr) (λvi _ _=>(intOf vi).toNat)
 case atStart=>exact⟨i,f,hi,rfl,H,qK.refl n f,hu,Bt.refl _ _⟩
 case round=>
  clear H hi hu;obtain⟨i,f',hi,rfl,H,hR,hu,hb⟩:=hrel;by_cases h0:0<i
  .have h0':(0:Int)<(i:Int):=ae;have a0:=H.var.cell (i:=0) ae;have hp:(i-1)/2<i:=ae
   have hq:Int.tdiv ((i:Int)-1) 2=(((i-1)/2:Nat):Int):=by rw[ao4 ae];omega
   have c1:=H.key hS (i:=(i-1)/2) ae;have c2:=H.key hS hi;have hlk:=ZO (H.sg i hi) (H.sg ((i-1)/2) ae);have cs:=λm=>TT hS B h n ((i-1)/2) i f' _ (wr.drewN m) (H.drew m) ae hi
   have hus:=λhl=>abd hu h0 hi hl
   have hst:=λhl=>OT hu (λ_=>hl)
   have hRs:=hR.trans (qK.swp f' (show(i-1)/2<n by omega) hi);generalize hpp:(i-1)/2=p at*;have hp':(p:Int)<(n:Int):=ae;have hi':(i:Int)<(n:Int):=ae;by_cases hkk:((yD (f' p):Nat):Int)<=((yD (f' i):Nat):Int)
   rotate_left
   .have hle:decide (((yD (f' p):Nat):Int)<=((yD (f' i):Nat):Int))=false:=dO hkk;have hl:Hp.lt (f' i).k (f' p).k=true:=by rw[hlk];exact ik ae
    have aj2:=hus hl;clear hus hst hl
    go_wp2_with fail
    go_big_quiet (fail)
    have cs':=cs nq;have hbq:=hb.drew nq;have hbs:=hbq.size;clear cs H hb;generalize wr.drewN nq=wq at*
    go_wp2_with(first|(go_at_call 124;(with_reducible refine cs'.mono ?_);rintro e w2 ⟨rfl,hH2,hb2⟩))
    go_roundw
    case rel=>exact⟨p,_,ae,rfl,hH2,hRs,aj2,hbq.trans hb2⟩
    case measure=>simp[intOf];omega
   .have hle:decide (((yD (f' p):Nat):Int)<=((yD (f' i):Nat):Int))=true:=ik hkk;have hl:=hst (show Hp.lt (f' i).k (f' p).k=false by rw[hlk];exact dO ae);clear hus hst
    go_wp2_with fail
    go_big_quiet (fail)
    have H2:=H.drew nq;have hbq:=hb.drew nq;clear cs H hb;generalize wr.drewN nq=wq at*;go_wp2;go_end0;exact⟨rfl,f',H2,hR,hl,hbq⟩
  .have h0':¬((0:Int)<(i:Int)):=ae;go_wp2;go_end0;exact aq9
theorem Rw(hS:Oq S)(B h n i:Nat)(f:Nat->qQ)(v:Value)(w:World)(H:HI S B h n f v w)(hn:n<=4398046511104)(hi:i<n\/i=0)(hu:Xr f n i):
  Calls Tryz.prog 104 #[.pointer (some ⟨h,0,none⟩),.int .i64 ((i:Nat):Int)] w λe w'=>aiy S B h n f v w e w':=by
 go_enter Tryz.func104,Tryz.ntmps104;go_wp2
 go_loopw [1,4] (λvi _ wr=>∃(i:Nat)(f':Nat->qQ),(i<n\/i=0)/\vi=.int .i64 ((i:Nat):Int)/\HI S B h n f' v wr/\qK n f f'/\Xr f' n i/\Bt v.ownBlock w wr) (λvi _ _=>n-(intOf vi).toNat)
 case atStart=>exact⟨i,f,hi,rfl,H,qK.refl n f,hu,Bt.refl _ _⟩
 case round=>
  clear H hi hu;obtain⟨i,f',hi,rfl,H,hR,hu,hb⟩:=hrel;obtain⟨l1,l2,l3⟩:=abg n f' i;have k1:=NM hS B h n (2*i+1) (2*i+2) f' v wr H ae ae;generalize ha:Jf n f' (2*i+1) (2*i+2)=a at*;have k2:=λw' (H':HI S B h n f' v w')=>NM hS B h n i a f' v w' H' (λ_=>ae) ae
  have dr:∀{w1 w2:World},HI S B h n f' v w1->Bt v.ownBlock w w1->(∃m,w2=w1.drewN m)->HI S B h n f' v w2/\Bt v.ownBlock w w2:=λ{w1 w2} h1 h2 ⟨m,e⟩=>apb;have e1:2*((i:Nat):Int)+1=((2*i+1:Nat):Int):=ae;have e2:2*((i:Nat):Int)+2=((2*i+2:Nat):Int):=ae;by_cases hx:a<n/\Hp.lt (f' a).k (f' i).k=true
  .have el:Jf n f' i a=a:=by unfold Jf;rw[aj hx]
   have hin:i<n:=ae;rw[el]at k2;have hs:=abf hu (show 0<a by omega) hx.1 ae hx.2 (l2 hx.1);have cs:=λw' (H':HI S B h n f' v w')=>TT hS B h n a i f' v w' H' hx.1 hin
   have hRs:=hR.trans (qK.swp f' hx.1 hin);have hne:((a:Int)==(i:Int))=false:=az;have hlt:=hx.1;clear hx el l2 l3 hu ha;generalize hi2:2*i+1=i1 at*;generalize hi3:2*i+2=i2 at*
   go_wp2_with(first
    |(go_at_call 125;(with_reducible refine k1.mono ?_);rintro e w1 ⟨rfl,hw1⟩;(obtain⟨H1,hb1⟩:=dr H hb hw1);clear hw1 H hb k1)
    |(go_at_call 125;(with_reducible refine(k2 _ H1).mono ?_);rintro e w2 ⟨rfl,hw2⟩;(obtain⟨H2,hb2⟩:=dr H1 hb1 hw2);clear hw2 H1 hb1 k2)
    |(go_at_call 124;(with_reducible refine(cs _ H2).mono ?_);rintro e w3 ⟨rfl,H3,hb3⟩))
   go_roundw
   case rel=>exact⟨a,_,.inl hlt,rfl,H3,hRs,hs,hb2.trans hb3⟩
   case measure=>simp[intOf];omega
  .have el:Jf n f' i a=i:=by unfold Jf;rw[ah hx]
   rw[el]at k2
   have hs:Hp f' n:=abe hu λc h0 hc hci=>by
    rcases l3 with l3|l3
    .rcases hy:Hp.lt (f' a).k (f' i).k with _|_
     .exact le_trans hy (l2 l3 c h0 hc hci)
     .exact absurd ⟨l3,hy⟩ hx
    .exact absurd hci (l3 c h0 hc)
   have hne:((i:Int)==(i:Int))=true:=ai;clear hx el l2 l3 hu ha;generalize hi2:2*i+1=i1 at*;generalize hi3:2*i+2=i2 at*
   go_wp2_with(first
    |(go_at_call 125;(with_reducible refine k1.mono ?_);rintro e w1 ⟨rfl,hw1⟩;(obtain⟨H1,hb1⟩:=dr H hb hw1);clear hw1 H hb k1)
    |(go_at_call 125;(with_reducible refine(k2 _ H1).mono ?_);rintro e w2 ⟨rfl,hw2⟩;(obtain⟨H2,hb2⟩:=dr H1 hb1 hw2);clear hw2 H1 hb1 k2))
   go_end0;exact⟨rfl,f',H2,hR,hs,hb2⟩
