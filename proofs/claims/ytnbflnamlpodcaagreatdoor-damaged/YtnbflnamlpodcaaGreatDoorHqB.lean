import Derived.Test.YtnbflnamlpodcaaGreatDoorDeB
set_option maxHeartbeats 8000000
set_option maxRecDepth 100000
namespace Go.Proofs.Y
open Go.Proofs.Tryz
open Go.RowKit Go.Deep Go.Lf Go.Conc Go.ConcN Go.Gh
open Go.ConcR (Payload WgAt wgBlock)
theorem YQ{Fin:Machine->Trace->Prop}(wZ:∀m m' ops t,stepT prog m=(.next m',ops)->Fin m' (t++ops)->Fin m t){X:Nat->Prop}{Y:Nat->Option Obj}{e:Nat}{gs:Array Goroutine}{W v0:World}{sl:Option (Nat×Nat)}{t:Trace}{qq:Nat->Nat}{fr:Frame}{cs:List Frame}{K M bc oc cap:Nat}{q:CL}{bd od:Nat->Nat}{yv:Nat->Nat->Nat}
  (h0:gs[0]?=some (G ((base 67).at ⟨#[.int .i64 (K:Int),.slice (some ⟨bc,oc,none⟩) M cap]++Array.replicate 67 undef,[]⟩ [.code Ja]) (fr::cs))) (hB:IE prog (vg X) e gs W t qq) (hs:qL X Y W v0)
  (hK:0<K/\K<=128) (hKM:K<=M) (BD:M<=cap) (hx:∀i,i<K->q.ix i<128) (hC:CO v0 bc oc K q) (aps:∀i j,i<K->j<K->i≠j->q.ix i≠q.ix j) (hS:DO v0 K q bd od yv) (O4:∀i,i<K->¬X (bd i)) (hL:q.L<=65536) (he:e+K<2147483648)
  (qH:∀(e':Nat)(σ:Nat->Nat)(B:Nat->Nat->F)(C Wg:Nat)(dN:Nat->Nat)(Nl:Array Goroutine)(W':World)(sl':Option (Nat×Nat))(t':Trace)(q':Nat->Nat)(Y':Nat->Option Obj)(v':World),e'<=e+K->MH K q.ix σ->(∃A,F.Gj K (mF K λs=>q.ix (σ s)) K A B)->Nl[0]?=some (G (fr.finish (.slice (some ⟨C,0,none⟩) K K)) cs)->
   IE prog (vg λb=>X b\/b=Wg) e' Nl W' t' q'->qL (λb=>X b\/b=Wg) Y' W' v'->W.heap.size<=Wg->Sub v0 v'->KpX X W W'->
   (∀t,t<K->v'.cell? ⟨C,t,none⟩=some (.slice (some ⟨dN t,0,none⟩) q.L q.L)/\∀m,m<q.L->v'.cell? ⟨dN t,m,none⟩=some (.int .u8 (((xF K B yv σ t m).val:Nat):Int)))->Fin (crowd Nl W' sl') t'):
  Fin (crowd gs W sl) t:=by
 have xn:=hs;obtain⟨τ0,dd0,NC⟩:=xn;have Pm:∀b,X b->b<v0.heap.size:=λb hb=>NC.bound b (.inl hb)
 refine late (Fin:=Fin) (Shun:=vg X) (e:=e) (Stop:=λgr W=>∃(σ:Nat->Nat)(bp Dy bD bv h2 ba C:Nat)(b2:Nat->Nat)(B:Nat->Nat->F)(T:Array Value)(v3:World),gr=G ((base 67).at ⟨T,[]⟩ [.code ZW]) (fr::cs)/\qL X Y W v3/\alu bp K Dy bv ba T/\Un K q σ bp Dy bD bv h2 ba C b2 B v3/\(∀b,b<v0.heap.size->b<C)/\(v0.heap.size<=bp/\v0.heap.size<=Dy/\v0.heap.size<=bD/\v0.heap.size<=bv/\v0.heap.size<=h2/\∀t,t<K->v0.heap.size<=b2 t)/\sK v0.heap.size v0 v3) wZ (λ_ _ _ h=>h) (λgs1 a1 W1 sl1 t1 q1 h01 uw Iq=>?_)
  (aay (Bc X) (cs:=fr::cs) (Y:=Y) hK hKM BD hx hC aps (λσ bp Dy bD bv h2 ba C b2 B T w1 a1 a2 a3 a4 a5 w hw=>.stop λdd=>⟨σ,bp,Dy,bD,bv,h2,ba,C,b2,B,T,w1,rfl,hw.at dd,a1,a2,a3,a4,a5⟩) W hs) W.drawn gs sl t qq h0 hB
 obtain⟨σ,bp,Dy,bD,bv,h2,ba,Cc,b2,B,T,v3,rfl,ZX,hTP,abo,uy,VF,Qc⟩:=uw W1.drawn;replace ZX:qL X Y W1 v3:=ZX;letI:qV:=⟨X⟩;obtain⟨n1,n2,n3,n4,n5,n6,n7,n8⟩:=abo.new;have ahf:W1.heap.size=v3.heap.size:=by obtain⟨_,_,h⟩:=ZX;exact h.size
 have ah7:IE prog (GV W1.heap.size) e gs1 W1 t1 q1:=Iq.more (λl h=>.inr h) (λl h=>h.elim (λ⟨a,ea,ya⟩=>.inr ⟨a,ea,dX ya.symm⟩) .inl);obtain⟨T',hTW,hG⟩:=aaB (D:=DM (GV W1.heap.size)) (λn w h=>⟨h,ai⟩) (cs:=fr::cs) W1 hTP;refine late (Fin:=Fin) (Shun:=GV W1.heap.size) (e:=e) wZ (λ_ _ _ h=>h) (λgs2 a2 W2 sl2 t2 q2 h02 akH Ae=>?_) (hG (λgr w=>gr=G ((base 67).at ⟨T',[]⟩ [.code zf]) (fr::cs)/\∃dd d',w=((W1.at dd).alloc (wgBlock link.tWg 0 0)).at d') (λdd d'=>⟨rfl,dd,d',rfl⟩)) W1.drawn gs1 sl1 t1 q1 h01 ah7;obtain⟨rfl,dd,d',K_⟩:=akH W2.drawn;replace K_:W2=((W1.at dd).alloc (wgBlock link.tWg 0 0)).at d':=K_;generalize Xy:W1.heap.size=Wg at*
 have hS2:qL X Y W2 (v3.alloc (wgBlock link.tWg 0 0)):=by exact axf
 have wH:W2.heap.size=Wg+1:=au2
 have SV:W2.heap[Wg]?=some (wgBlock link.tWg 0 0):=by exact aw1
 have hl2:∀b,b<Wg->W2.heap[b]?=W1.heap[b]?:=λb hb=>by exact awS
 obtain⟨τ2,dd2,yJ⟩:=hS2;have hPF:=(abo.alloc (wgBlock link.tWg 0 0)).tp τ2 dd2;have vK:sK v0.heap.size v0 {v3.alloc (wgBlock link.tWg 0 0)with tape:=τ2,drawn:=dd2}:=(Qc.trans (sK.of ((aA v3.heap.size v3).alloc (ak _) _)) Qc.sH).tp τ2 dd2;generalize({v3.alloc (wgBlock link.tWg 0 0)with tape:=τ2,drawn:=dd2}:World)=v4 at yJ hPF vK;letI:Payload:=⟨34⟩;letI:yw:=⟨W2.output,W2.os⟩;have ah8:QJ (Dz K q.L q σ bd od yv bp Dy bD bv h2 ba b2 B (λb=>W2.heap[b]?)) K q.L:=alC hK ae (λt ht=>hx _ (abo.pl.lt t ht)) hS.yl;have hSF:=aib (lw:=v0.heap.size) (L:=q.L) rfl Pm Pm VF yJ hS O4 rfl vK uy hPF wH ae;have hSp:=aia (cs:=fr::cs) ah8 (hTW _ rfl rfl rfl rfl rfl rfl) hSF;have atv:=aeM (Dz K q.L q σ bd od yv bp Dy bD bv h2 ba b2 B (λb=>W2.heap[b]?)) K 0;refine YP (Fin:=Fin) (ty:=link.tWg) wZ h02 Ae (λb hb=>?_) (dm _) ae ae ae SV hSF.pay hSp ⟨λ_ _ _ _ r h=>V7.rely h r,λ_ _ _ _ r h=>KR.rely h r⟩ ae rfl rfl (λids gs3 a3 W3 lb sl3 t3 q3 h03 ho hos hwk hK3 hp BF Ny=>?_)
 .have:=Pm b hb;have:=uy b this;omega
 obtain⟨T1,s0,j,ops,rfl,hTS,NY,Bf⟩:=hK3;have Uj:∀b,b<Wg->b≠Cc->W3.heap[b]?=W2.heap[b]?:=λb hb hc=>NY.low.Uj b ae ae hc
 have hXC:∀b,X b->b<Wg/\b≠Cc:=λb hb=>by have h1:=Pm b hb;have:=uy b h1;omega
 obtain⟨Y',v',xu,VH⟩:=Tf W3 (λb=>X b\/b=Wg) (λb hb=>by
  rcases hb with hb|rfl
  .exact aw8
  .obtain⟨st,sm,hw⟩:=hwk;exact⟨_,_,hw⟩)
 obtain⟨⟨dN,hd⟩,hba⟩:=an5 yJ wH ae hK hx hS uy hPF VH Pm NY Bf BF
 have O7:∀{b:Nat}{c:Array Value}{ty:TypeId}{fz:Nat×Nat},v0.heap[b]?=some (.cells c ty fz)->v'.heap[b]?=some (.cells c ty fz):=λ{b c ty fz} h=>by
  have h1:b<v0.heap.size:=(bf.1 h).1;have h2:=uy b h1;have h3:v4.heap[b]?=some (.cells c ty fz):=(vK.blk h1).trans h;by_cases hx:X b
  .exact aw7
  .exact aw3
 have e1:v'.heap.size=W3.heap.size:=xu.size.symm;have e2:Wg+1<=W3.heap.size:=aJ NY.sb.2.1 NY.sb.2.2;have ap2:v0.heap.size<=v3.heap.size:=Qc.sH;have hD':vw (λb=>X b\/b=Wg) (DM (GV Wg)):=YN λl h=>h.elim (λ⟨a,ea,ya⟩=>⟨a,ea,.inr ya⟩) (λ⟨a,ea,ya⟩=>⟨a,ea,.inl ya⟩)
 refine late (Fin:=Fin) (Shun:=GV Wg) (e:=e+Um (Dz K q.L q σ bd od yv bp Dy bD bv h2 ba b2 B (λb=>W2.heap[b]?)) 0 K) (Stop:=λgr w=>gr=G (fr.finish (.slice (some ⟨Cc,0,none⟩) K K)) cs/\qL (λb=>X b\/b=Wg) Y' w v') wZ (λ_ _ _ h=>h) (λVU a4 W4 Yn t4 q4 ZR ah9 Ib=>?_) (an6 (X:=λb=>X b\/b=Wg) (Y:=Y') hD' hTS hba (λτ dd w1 BB=>.stop λd6=>⟨rfl,BB.at d6⟩) W3 xu.t) W3.drawn gs3 sl3 t3 q3 h03 Ny;obtain⟨rfl,FP⟩:=ah9 W4.drawn;replace FP:qL (λb=>X b\/b=Wg) Y' W4 v':=FP;refine qH _ σ B Cc Wg dN VU W4 Yn t4 q4 Y' v' ae abo.pl abo.gj ZR (Ib.more (λl h=>h.elim (λ⟨a,ea,ya⟩=>⟨a,ea,.inr ya⟩) (λ⟨a,ea,ya⟩=>⟨a,ea,.inl ya⟩)) (λl ⟨a,ea,ya⟩=>.inl (ya.elim (λy=>.inr ⟨a,ea,y⟩) (λy=>.inl ⟨a,ea,y⟩)))) FP ?_ ⟨ae,λb c ty fz hx=>O7 hx⟩ ?_ hd
 .exact aw0
 .have x_:W.heap.size=v0.heap.size:=NC.size;obtain⟨τ5,d5,NZ⟩:=FP;obtain⟨τ1,d1,VI⟩:=ZX;have z5:W4.heap.size=v'.heap.size:=NZ.size;refine⟨?_,?_,ae,λb hb hx=>?_⟩
  .exact aya
  .exact axX
  .exact axw
theorem YR{Fin:Machine->Trace->Prop}(wZ:∀m m' ops t,stepT prog m=(.next m',ops)->Fin m' (t++ops)->Fin m t){X:Nat->Prop}{Y:Nat->Option Obj}{e:Nat}{gs:Array Goroutine}{W v0:World}{sl:Option (Nat×Nat)}{t:Trace}{qq:Nat->Nat}{fr:Frame}{cs:List Frame}{K N:Nat}{l:List UInt8}{vd:Value}
  (h0:gs[0]?=some (G ((base 29).at ⟨#[.int .i64 ((K:Nat):Int),.int .i64 ((N:Nat):Int),vd]++Array.replicate 23 undef,[]⟩ [.code zi]) (fr::cs))) (hB:IE prog (vg X) e gs W t qq) (hs:qL X Y W v0)
  (hk0:1<=K) (hkn:K<=N) (hn:N<=128) (Nz:l.length<=65536) (hv:qR v0 vd (r_ l)) (he:e+N<2147483648)
  (qH:∀(C Wg:Nat)(dN:Nat->Nat)(Nl:Array Goroutine)(W':World)(sl':Option (Nat×Nat))(t':Trace)(q':Nat->Nat)(Y':Nat->Option Obj)(v':World),Nl[0]?=some (G (fr.finish (.slice (some ⟨C,0,none⟩) N N)) cs)->
   IE prog (vg λb=>X b\/b=Wg) (e+N) Nl W' t' q'->qL (λb=>X b\/b=Wg) Y' W' v'->W.heap.size<=Wg->v0.heap.size<=C->Sub v0 v'->KpX X W W'->
   (∀t,t<N->v'.cell? ⟨C,t,none⟩=some (.slice (some ⟨dN t,0,none⟩) (tX K l.length) (tX K l.length))/\v'.heap[dN t]?=some (.cells (r_ (AY K (tX K l.length) l t)).toArray 5))->Fin (crowd Nl W' sl') t'):
  Fin (crowd gs W sl) t:=by
 have xn:=hs;obtain⟨τ0,dd0,NC⟩:=xn;have Pm:∀b,X b->b<v0.heap.size:=λb hb=>NC.bound b (.inl hb)
 refine late (Fin:=Fin) (Shun:=vg X) (e:=e) (Stop:=λgr W=>∃(bk bd Pp Ff ba C:Nat)(T:Array Value)(v3:World),gr=G ((base 29).at ⟨T,[]⟩ [.code gc3]) (fr::cs)/\qL X Y W v3/\TPc bk bd ba T/\PFc K N (tX K l.length) l bk bd Pp Ff ba C v3/\(∀b,b<v0.heap.size->b<C)/\(v0.heap.size<=bk/\v0.heap.size<=bd/\v0.heap.size<=Pp/\v0.heap.size<=Ff)/\sK v0.heap.size v0 v3) wZ (λ_ _ _ h=>h) (λgs1 a1 W1 sl1 t1 q1 h01 uw Iq=>?_)
  (QN (Bc X) (cs:=fr::cs) (Y:=Y) hk0 hkn hn Nz hv (λbk bd Pp Ff ba C T w1 a1 a2 a3 a4 a5 w hw=>.stop λdd=>⟨bk,bd,Pp,Ff,ba,C,T,w1,rfl,hw.at dd,a1,a2,a3,a4,a5⟩) W hs) W.drawn gs sl t qq h0 hB
 obtain⟨bk,bd,Pp,Ff,ba,Cc,T,v3,rfl,ZX,hTP,abo,uy,VF,Qc⟩:=uw W1.drawn;replace ZX:qL X Y W1 v3:=ZX;letI:qV:=⟨X⟩;obtain⟨n1,n2,n3,n4,n5,n6⟩:=abo.new;have ahf:W1.heap.size=v3.heap.size:=by obtain⟨_,_,h⟩:=ZX;exact h.size
 have ah7:IE prog (GV W1.heap.size) e gs1 W1 t1 q1:=Iq.more (λl h=>.inr h) (λl h=>h.elim (λ⟨a,ea,ya⟩=>.inr ⟨a,ea,dX ya.symm⟩) .inl);obtain⟨T',hTW,hG⟩:=Ur (D:=DM (GV W1.heap.size)) (λn w h=>⟨h,ai⟩) (cs:=fr::cs) W1 hTP;refine late (Fin:=Fin) (Shun:=GV W1.heap.size) (e:=e) wZ (λ_ _ _ h=>h) (λgs2 a2 W2 sl2 t2 q2 h02 akH Ae=>?_) (hG (λgr w=>gr=G ((base 29).at ⟨T',[]⟩ [.code zY]) (fr::cs)/\∃dd d',w=((W1.at dd).alloc (wgBlock link.tWg 0 0)).at d') (λdd d'=>⟨rfl,dd,d',rfl⟩)) W1.drawn gs1 sl1 t1 q1 h01 ah7;obtain⟨rfl,dd,d',K_⟩:=akH W2.drawn;replace K_:W2=((W1.at dd).alloc (wgBlock link.tWg 0 0)).at d':=K_;generalize Xy:W1.heap.size=Wg at*
 have hS2:qL X Y W2 (v3.alloc (wgBlock link.tWg 0 0)):=by exact axf
 have wH:W2.heap.size=Wg+1:=au2
 have SV:W2.heap[Wg]?=some (wgBlock link.tWg 0 0):=by exact aw1
 have hl2:∀b,b<Wg->W2.heap[b]?=W1.heap[b]?:=λb hb=>by exact awS
 obtain⟨τ2,dd2,yJ⟩:=hS2;have hPF:=(abo.alloc (wgBlock link.tWg 0 0)).tp τ2 dd2;have vK:sK v0.heap.size v0 {v3.alloc (wgBlock link.tWg 0 0)with tape:=τ2,drawn:=dd2}:=(Qc.trans (sK.of ((aA v3.heap.size v3).alloc (ak _) _)) Qc.sH).tp τ2 dd2;generalize({v3.alloc (wgBlock link.tWg 0 0)with tape:=τ2,drawn:=dd2}:World)=v4 at yJ hPF vK;letI:Payload:=⟨34⟩;letI:yw:=⟨W2.output,W2.os⟩;have hLb:=Du (k:=K) ae l.length;have ah8:PS (Iw K (tX K l.length) l bk bd Pp Ff ba (λb=>W2.heap[b]?)) K N (tX K l.length):=aeI ae ae ae;have hSF:=Xz (lw:=v0.heap.size) rfl Pm Pm VF yJ hPF wH ae;have hSp:=XA (cs:=fr::cs) ah8 (hTW _ rfl rfl rfl) hSF;refine YP (Fin:=Fin) (ty:=link.tWg) wZ h02 Ae (λb hb=>?_) (dm _) ae ae ae SV hSF.pay hSp ⟨λ_ _ _ _ r h=>V7.rely h r,λ_ _ _ _ r h=>KC.rely h r⟩ he rfl rfl (λids gs3 a3 W3 lb sl3 t3 q3 h03 ho hos hwk hK3 hp BF Ny=>?_)
 .have:=Pm b hb;have:=uy b this;omega
 obtain⟨T1,s0,j,ops,rfl,hTS,NY,Bf⟩:=hK3;have Uj:∀b,b<Wg->b≠Cc->W3.heap[b]?=W2.heap[b]?:=λb hb hc=>NY.low.Uj b ae ae hc
 have hXC:∀b,X b->b<Wg/\b≠Cc:=λb hb=>by have h1:=Pm b hb;have:=uy b h1;omega
 obtain⟨Y',v',xu,VH⟩:=Tf W3 (λb=>X b\/b=Wg) (λb hb=>by
  rcases hb with hb|rfl
  .exact aw8
  .obtain⟨st,sm,hw⟩:=hwk;exact⟨_,_,hw⟩)
 obtain⟨⟨dN,hd⟩,_,hba⟩:=aeJ yJ wH ae vK uy hPF VH Pm NY Bf BF
 have O7:∀{b:Nat}{c:Array Value}{ty:TypeId}{fz:Nat×Nat},v0.heap[b]?=some (.cells c ty fz)->v'.heap[b]?=some (.cells c ty fz):=λ{b c ty fz} h=>by
  have h1:b<v0.heap.size:=(bf.1 h).1;have h2:=uy b h1;have h3:v4.heap[b]?=some (.cells c ty fz):=(vK.blk h1).trans h;by_cases hx:X b
  .exact aw7
  .exact aw3
 have e1:v'.heap.size=W3.heap.size:=xu.size.symm;have e2:Wg+1<=W3.heap.size:=aJ NY.sb.2.1 NY.sb.2.2;have ap2:v0.heap.size<=v3.heap.size:=Qc.sH;have hD':vw (λb=>X b\/b=Wg) (DM (GV Wg)):=YN λl h=>h.elim (λ⟨a,ea,ya⟩=>⟨a,ea,.inr ya⟩) (λ⟨a,ea,ya⟩=>⟨a,ea,.inl ya⟩)
 refine late (Fin:=Fin) (Shun:=GV Wg) (e:=e+N) (Stop:=λgr w=>gr=G (fr.finish (.slice (some ⟨Cc,0,none⟩) N N)) cs/\qL (λb=>X b\/b=Wg) Y' w v') wZ (λ_ _ _ h=>h) (λVU a4 W4 Yn t4 q4 ZR ah9 Ib=>?_) (am1 (X:=λb=>X b\/b=Wg) (Y:=Y') hD' hTS hba (λτ dd w1 BB=>.stop λd6=>⟨rfl,BB.at d6⟩) W3 xu.t) W3.drawn gs3 sl3 t3 q3 h03 Ny;obtain⟨rfl,FP⟩:=ah9 W4.drawn;replace FP:qL (λb=>X b\/b=Wg) Y' W4 v':=FP;refine qH Cc Wg dN VU W4 Yn t4 q4 Y' v' ZR (Ib.more (λl h=>h.elim (λ⟨a,ea,ya⟩=>⟨a,ea,.inr ya⟩) (λ⟨a,ea,ya⟩=>⟨a,ea,.inl ya⟩)) (λl ⟨a,ea,ya⟩=>.inl (ya.elim (λy=>.inr ⟨a,ea,y⟩) (λy=>.inl ⟨a,ea,y⟩)))) FP ?_ ?_ ⟨ae,λb c ty fz hx=>O7 hx⟩ ?_ (λt ht=>⟨(hd t ht).1,av_⟩)
 .exact aw0
 .rcases dK v0.heap.size with h|h
  .omega
  .have:=uy (v0.heap.size-1) ae;omega
 .have x_:W.heap.size=v0.heap.size:=NC.size;obtain⟨τ5,d5,NZ⟩:=FP;obtain⟨τ1,d1,VI⟩:=ZX;have z5:W4.heap.size=v'.heap.size:=NZ.size;refine⟨?_,?_,ae,λb hb hx=>?_⟩
  .exact aya
  .exact axX
  .exact axw
end Go.Proofs.Y
namespace Go.Proofs.Y
open Go.Proofs.Tryz
open Go.RowKit Go.Deep Go.Hp
section
variable {c:qY->List Value}{s:Nat}
def zt(c:qY->List Value)(n:Nat)(f:Nat->qY):List Value:=(List.range n).flatMap λi=>c (f i)
theorem zO(n:Nat)(f:Nat->qY):zt c (n+1) f=zt c n f++c (f n):=by unfold zt;rw[dC,mG];simp
theorem uT(hc:∀e,(c e).length=s)(n:Nat)(f:Nat->qY):(zt c n f).length=n*s:=by
 induction n with
 |zero=>simp[zt]
 |succ n ih=>rw[zO,aS,ih,hc,fD]
theorem Qd(hc:∀e,(c e).length=s){n i p:Nat}(f:Nat->qY)(hi:i<n)(hp:p<s):(zt c n f)[i*s+p]?=(c (f i))[p]?:=by
 induction n with
 |zero=>omega
 |succ n ih=>
  rw[zO];by_cases e:i=n
  .subst e;rw[iW lF,uT hc,gZ]
  .have:i*s+s<=n*s:=by rw[<-fD];exact ji s ae
   rw[fF lF,ih ae]
theorem Q7{n:Nat}{f g:Nat->qY}(h:∀i,i<n->f i=g i):zt c n f=zt c n g:=by
 induction n with
 |zero=>rfl
 |succ n ih=>rw[zO,zO,ih λi hi=>h i ae,h n ae]
def agr(xs:List Value)(p:Nat):List Value->List Value
 |[]=>xs
 |v::r=>agr (xs.set p v) (p+1) r
theorem abp:∀(vs xs:List Value)(p m:Nat),p+vs.length<=xs.length->(agr xs p vs)[m]?=if p<=m/\m<p+vs.length then vs[m-p]? else xs[m]?
 |[],xs,p,m,_=>by rw[agr,ah ai]
 |v::r,xs,p,m,h=>by
  simp only[bQ]at h⊢;rw[agr,abp r _ _ _ (by rw[List.length_set];omega)];by_cases e:m=p
  .subst e;rw[ah ae,aj ae,mr,aj rfl,aj ae,kD];rfl
  .by_cases e2:p<=m/\m<p+(r.length+1)
   .rw[aj ae,aj e2,show m-p=(m-(p+1))+1 by omega];rfl
   .rw[ah ae,ah e2,List.getElem?_set_ne (λx=>e x.symm)]
theorem ags(hc:∀e,(c e).length=s){n i:Nat}(f:Nat->qY)(hi:i<n)(e:qY):agr (zt c n f) (i*s) (c e)=zt c n (λx=>if x=i then e else f x):=by
 have hle:i*s+s<=n*s:=awc;apply iY;intro m;rw[abp _ _ _ _ (by rw[hc,uT hc];exact hle),hc];by_cases hm:m<n*s
 .have hs:0<s:=Nat.pos_of_ne_zero λe=>by rw[e]at hm;simp at hm
  have hq:m=m/s*s+m%s:=by rw[eX];exact(nO m s).symm
  have hp:=fJ m hs;have hqn:m/s<n:=(at6 hs).2 hm;generalize m/s=q at*;generalize m%s=p at*;subst hq;rw[Qd hc f hqn hp,Qd hc _ hqn hp];by_cases e1:q=i
  .subst e1;rw[aj ⟨ae,ae⟩,aj rfl,gZ]
  .rw[ah,ah e1];rintro⟨h1,h2⟩;rcases Nat.lt_or_gt_of_ne e1 with h|h
   .have:q*s+s<=i*s:=awd;omega
   .have:i*s+s<=q*s:=awd;omega
 .rw[ah ae,gG lF,gG lF]
theorem XV{B t s g cap n:Nat}:∀(vs:List Value)(p:Nat)(xs:List Value)(w:World),w.ownsRow B t s (.slice (some ⟨g,0,none⟩) n cap) n xs->(w.setCells g p vs).ownsRow B t s (.slice (some ⟨g,0,none⟩) n cap) n (agr xs p vs)
 |[],_,_,_,h=>h
 |v::r,p,_,_,h=>XV r (p+1) _ _ (h.stored p v).1
theorem yM(hc:∀e,(c e).length=s){w:World}{B t g cap n i:Nat}{f:Nat->qY}(h:w.ownsRow B t s (.slice (some ⟨g,0,none⟩) n cap) n (zt c n f))(hi:i<n):w.rangeAt g (i*s) (c (f i)):=λj v hv=>by have hj:=(dS.1 hv).1;rw[hc]at hj;have:i*s+s<=n*s:=awc;rw[h.cellAt _ ae,Qd hc _ hi hj];exact hv
end
def zQ(e:qY):Nat:=(e.k.headD 0).toNat
def Sg(n:Nat)(f:Nat->qY):Prop:=∀i,i<n->∃b,(f i).k=[b]
theorem adz{e e':qY}(h:∃b,e.k=[b])(h':∃b,e'.k=[b]):Hp.lt e.k e'.k=decide (((zQ e:Nat):Int)<((zQ e':Nat):Int)):=by obtain⟨a,ha⟩:=h;obtain⟨b,hb⟩:=h';simp only[zQ,ha,hb,List.headD_cons,Hp.lt,Op.bytesLess,Bool.and_false,Bool.or_false,Int.ofNat_lt,iw]
structure Sr(S:Nat->List Value):Prop where
 len:∀i,(S i).length=7
 one:∀i,∀u∈S i,u.oneCell'=true
def Jz(S:Nat->List Value)(e:qY):List Value:=.int .i64 ((zQ e:Nat):Int)::S e.l
theorem wF{S:Nat->List Value}(h:Sr S)(e:qY):(Jz S e).length=8:=by simp[Jz,h.len]
theorem ajx{S:Nat->List Value}(h:Sr S)(e:qY):∀u∈Jz S e,u.oneCell'=true:=by
 intro u hu;rcases dA.1 hu with rfl|hu
 .rfl
 .exact h.one _ u hu
structure HI(S:Nat->List Value)(B h n:Nat)(f:Nat->qY)(v:Value)(w:World):Prop where
 var:w.rowIs h 132 1 (λ_=>v)
 own:w.ownsRow B 184 8 v n (zt (Jz S) n f)
 low:h<B
 sg:Sg n f
section
variable {S:Nat->List Value}{B h n:Nat}{f:Nat->qY}{v:Value}{w:World}
theorem HI.form(H:HI S B h n f v w)(hn:0<n):∃g cap,v=.slice (some ⟨g,0,none⟩) n cap/\B<=g/\n<=cap/\cap<=maxLen:=by
 rcases H.own.2 with⟨_,rfl⟩|⟨g,cap,cur,h1,h2,h3,h4,h5,_⟩
 .omega
 .exact⟨g,cap,h1,h2,h4,h5⟩
theorem HI.slice(H:HI S B h n f v w):∃bo cap,v=.slice bo n cap:=by exact awO
theorem HI.key(hS:Sr S){g cap:Nat}(H:HI S B h n f (.slice (some ⟨g,0,none⟩) n cap) w){i:Nat}(hi:i<n):w.cell? ⟨g,i*8,none⟩=some (.int .i64 ((zQ (f i):Nat):Int)):=yM (wF hS) H.own hi 0 _ rfl
theorem HI.drew(H:HI S B h n f v w)(m:Nat):HI S B h n f v (w.drewN m):=⟨H.var,H.own,H.low,H.sg⟩
theorem Q8(hS:Sr S)(B h n i j:Nat)(f:Nat->qY)(v:Value)(w:World)(H:HI S B h n f v w)(VG:j<n->i<n)(hj:j<4611686018427387904):
  Calls prog 125 #[.pointer (some ⟨h,0,none⟩),.int .i64 ((i:Nat):Int),.int .i64 ((j:Nat):Int)] w λe w'=>e=.returned (.int .i64 ((MV n f i j:Nat):Int))/\∃m,w'=w.drewN m:=by
 have a0:=H.var.cell (i:=0) ae;by_cases hjn:j<n
 .obtain⟨g,cap,rfl,hg,hnc,sF⟩:=H.form ae;have hd:decide ((j:Int)<(n:Int))=true:=az;have Pq:(j:Int)<(n:Int):=ae;have JQ:(i:Int)<(n:Int):=by have:=VG hjn;omega
  have cj:=H.key hS hjn;have ci:=H.key hS (VG hjn);have hq:=adz (H.sg j hjn) (H.sg i (VG hjn));have hr:MV n f i j=if Hp.lt (f j).k (f i).k then j else i:=by unfold MV;simp[hjn]
  rw[hr,hq];clear H VG hr hq;by_cases hk:((zQ (f j):Nat):Int)<((zQ (f i):Nat):Int)
  .have VH:decide (((zQ (f j):Nat):Int)<((zQ (f i):Nat):Int))=true:=iq hk;rw[VH,aj rfl];go_enter func125,ntmps125
   go_wp2_with fail
   go_big_quiet (fail)
   exact awD
  .have VH:decide (((zQ (f j):Nat):Int)<((zQ (f i):Nat):Int))=false:=dP hk;rw[VH,ah ai];go_enter func125,ntmps125
   go_wp2_with fail
   go_big_quiet (fail)
   exact awD
 .have hr:MV n f i j=i:=avo;rw[hr];have hd:decide ((j:Int)<(n:Int))=false:=az;obtain⟨bo,cap,rfl⟩:=H.slice;clear H VG;go_enter func125,ntmps125
  go_wp2_with fail
  go_big_quiet (fail)
  exact awD
theorem JA{o:Option Nat}{a:World}{g:Nat}(hg:o=some g):∀(vs:List Value)(p:Nat)(w:World),Bt o a w->Bt o a (w.setCells g p vs)
 |[],_,_,h=>h
 |v::r,p,_,h=>JA hg r (p+1) _ (h.set hg v)
theorem Qe{b g:Nat}{t:TypeId}{n:Nat}{f:Nat->Value}(hne:b≠g):∀(vs:List Value)(p:Nat)(w:World),w.rowIs b t n f->(w.setCells g p vs).rowIs b t n f
 |[],_,_,h=>h
 |v::r,p,_,h=>Qe hne r (p+1) _ (h.setOther (a:=⟨g,p,none⟩) hne v)
theorem HI.abq(H:HI S B h n f v w):HI S B h n f v w.drew:=⟨H.var,H.own,H.low,H.sg⟩
theorem Bt.abq{o:Option Nat}{a w:World}(h:Bt o a w):Bt o a w.drew:=⟨h.os,h.tape,h.output,h.size,h.block⟩
theorem HI.put(hS:Sr S){g cap i:Nat}(H:HI S B h n f (.slice (some ⟨g,0,none⟩) n cap) w)(hi:i<n)(hg:B<=g){e:qY}(he:∃b,e.k=[b]):HI S B h n (λx=>if x=i then e else f x) (.slice (some ⟨g,0,none⟩) n cap) (w.setCells g (i*8) (Jz S e)):=by
 have hne:h≠g:=by have:=H.low;omega
 refine⟨Qe hne _ _ _ H.var,?_,H.low,λx hx=>?_⟩
 .rw[<-ags (wF hS) f hi e];exact XV _ _ _ _ H.own
 .split
  .exact he
  .exact H.sg x hx
theorem apA(f:Nat->qY)(i j:Nat):(λx=>if x=j then f i else if x=i then f j else f x)=swp f i j:=by
 funext x
 unfold swp;by_cases e1:x=i
 .by_cases e2:x=j
  .rw[aj e2,aj e1,<-e1,<-e2]
  .rw[ah e2,aj e1,aj e1]
 .rw[ah e1,ah e1]
theorem adA{w:World}{B t g cap n o:Nat}{xs:List Value}(H:w.ownsRow B t 8 (.slice (some ⟨g,0,none⟩) n cap) n xs)(ho:o+8<=n*8)(x0 x1 x2 x3 x4 x5 x6 _x7:Value):
  ((∃y,w.cell? ⟨g,o,none⟩=some y)/\w.frozen? ⟨g,o,none⟩=false)/\((∃y,(w.setCell ⟨g,o,none⟩ x0).cell? ⟨g,o+1,none⟩=some y)/\(w.setCell ⟨g,o,none⟩ x0).frozen? ⟨g,o+1,none⟩=false)/\((∃y,((w.setCell ⟨g,o,none⟩ x0).setCell ⟨g,o+1,none⟩ x1).cell? ⟨g,o+2,none⟩=some y)/\((w.setCell ⟨g,o,none⟩ x0).setCell ⟨g,o+1,none⟩ x1).frozen? ⟨g,o+2,none⟩=false)/\((∃y,(((w.setCell ⟨g,o,none⟩ x0).setCell ⟨g,o+1,none⟩ x1).setCell ⟨g,o+2,none⟩ x2).cell? ⟨g,o+3,none⟩=some y)/\(((w.setCell ⟨g,o,none⟩ x0).setCell ⟨g,o+1,none⟩ x1).setCell ⟨g,o+2,none⟩ x2).frozen? ⟨g,o+3,none⟩=false)/\((∃y,((((w.setCell ⟨g,o,none⟩ x0).setCell ⟨g,o+1,none⟩ x1).setCell ⟨g,o+2,none⟩ x2).setCell ⟨g,o+3,none⟩ x3).cell? ⟨g,o+4,none⟩=some y)/\((((w.setCell ⟨g,o,none⟩ x0).setCell ⟨g,o+1,none⟩ x1).setCell ⟨g,o+2,none⟩ x2).setCell ⟨g,o+3,none⟩ x3).frozen? ⟨g,o+4,none⟩=false)/\((∃y,(((((w.setCell ⟨g,o,none⟩ x0).setCell ⟨g,o+1,none⟩ x1).setCell ⟨g,o+2,none⟩ x2).setCell ⟨g,o+3,none⟩ x3).setCell ⟨g,o+4,none⟩ x4).cell? ⟨g,o+5,none⟩=some y)/\(((((w.setCell ⟨g,o,none⟩ x0).setCell ⟨g,o+1,none⟩ x1).setCell ⟨g,o+2,none⟩ x2).setCell ⟨g,o+3,none⟩ x3).setCell ⟨g,o+4,none⟩ x4).frozen? ⟨g,o+5,none⟩=false)/\((∃y,((((((w.setCell ⟨g,o,none⟩ x0).setCell ⟨g,o+1,none⟩ x1).setCell ⟨g,o+2,none⟩ x2).setCell ⟨g,o+3,none⟩ x3).setCell ⟨g,o+4,none⟩ x4).setCell ⟨g,o+5,none⟩ x5).cell? ⟨g,o+6,none⟩=some y)/\((((((w.setCell ⟨g,o,none⟩ x0).setCell ⟨g,o+1,none⟩ x1).setCell ⟨g,o+2,none⟩ x2).setCell ⟨g,o+3,none⟩ x3).setCell ⟨g,o+4,none⟩ x4).setCell ⟨g,o+5,none⟩ x5).frozen? ⟨g,o+6,none⟩=false)/\((∃y,(((((((w.setCell ⟨g,o,none⟩ x0).setCell ⟨g,o+1,none⟩ x1).setCell ⟨g,o+2,none⟩ x2).setCell ⟨g,o+3,none⟩ x3).setCell ⟨g,o+4,none⟩ x4).setCell ⟨g,o+5,none⟩ x5).setCell ⟨g,o+6,none⟩ x6).cell? ⟨g,o+7,none⟩=some y)/\(((((((w.setCell ⟨g,o,none⟩ x0).setCell ⟨g,o+1,none⟩ x1).setCell ⟨g,o+2,none⟩ x2).setCell ⟨g,o+3,none⟩ x3).setCell ⟨g,o+4,none⟩ x4).setCell ⟨g,o+5,none⟩ x5).setCell ⟨g,o+6,none⟩ x6).frozen? ⟨g,o+7,none⟩=false):=by
 have k:∀(w:World)(xs:List Value)(p:Nat),w.ownsRow B t 8 (.slice (some ⟨g,0,none⟩) n cap) n xs->p<n*8->(∃y,w.cell? ⟨g,p,none⟩=some y)/\w.frozen? ⟨g,p,none⟩=false:=λw xs p o hp=>⟨⟨xs[p]' auP,auO⟩,o.frozenAt p⟩
 have h1:=(H.stored (o) x0).1;have h2:=(h1.stored (o+1) x1).1;have h3:=(h2.stored (o+2) x2).1;have h4:=(h3.stored (o+3) x3).1;have h5:=(h4.stored (o+4) x4).1;have h6:=(h5.stored (o+5) x5).1;have h7:=(h6.stored (o+6) x6).1;exact⟨k _ _ _ H ae,k _ _ _ h1 ae,k _ _ _ h2 ae,k _ _ _ h3 ae,k _ _ _ h4 ae,k _ _ _ h5 ae,k _ _ _ h6 ae,k _ _ _ h7 ae⟩
theorem eight{l:List Value}(h:l.length=7):∃a b c d e x y,l=[a,b,c,d,e,x,y]:=by
 match l,h with
 |[a,b,c,d,e,x,y],_=>exact⟨a,b,c,d,e,x,y,rfl⟩
theorem xY(u:Value)(h:u.oneCell'=true)(w:World)(a:Addr):(store a u).run prog w=stored prog w a u .plain:=run_store prog w a u .plain h
theorem Gp{a b c d e x y:Value}(h:∀u∈[a,b,c,d,e,x,y],u.oneCell'=true):
  (∀w p,(store p a).run prog w=stored prog w p a .plain)/\(∀w p,(store p b).run prog w=stored prog w p b .plain)/\(∀w p,(store p c).run prog w=stored prog w p c .plain)/\(∀w p,(store p d).run prog w=stored prog w p d .plain)/\(∀w p,(store p e).run prog w=stored prog w p e .plain)/\(∀w p,(store p x).run prog w=stored prog w p x .plain)/\(∀w p,(store p y).run prog w=stored prog w p y .plain):=
 ⟨xY a (h a ai),xY b (h b ai),xY c (h c ai),xY d (h d ai),xY e (h e ai),xY x (h x ai),xY y (h y ai)⟩
theorem UY{w:World}{g o:Nat}{a b c d e x y z:Value}(h:w.rangeAt g o [a,b,c,d,e,x,y,z]):w.cell? ⟨g,o,none⟩=some a/\w.cell? ⟨g,o+1,none⟩=some b/\w.cell? ⟨g,o+2,none⟩=some c/\w.cell? ⟨g,o+3,none⟩=some d/\w.cell? ⟨g,o+4,none⟩=some e/\w.cell? ⟨g,o+5,none⟩=some x/\w.cell? ⟨g,o+6,none⟩=some y/\w.cell? ⟨g,o+7,none⟩=some z:=
 ⟨h 0 _ rfl,h 1 _ rfl,h 2 _ rfl,h 3 _ rfl,h 4 _ rfl,h 5 _ rfl,h 6 _ rfl,h 7 _ rfl⟩
theorem XW(hS:Sr S)(B h n i j:Nat)(f:Nat->qY)(v:Value)(w:World)(H:HI S B h n f v w)(hi:i<n)(hj:j<n):
  Calls prog 124 #[.pointer (some ⟨h,0,none⟩),.int .i64 ((i:Nat):Int),.int .i64 ((j:Nat):Int)] w λe w'=>e=.returned (.tuple #[])/\HI S B h n (swp f i j) v w'/\Bt v.ownBlock w w':=by
 obtain⟨g,cap,rfl,hg,hnc,sF⟩:=H.form ae;have JQ:(i:Int)<(n:Int):=ae;have Pq:(j:Int)<(n:Int):=ae;have a0:=H.var.cell (i:=0) ae;have ri:=yM (wF hS) H.own hi;have rj:=yM (wF hS) H.own hj;have H1:=H.put hS hi hg (H.sg j hj);have H2:=H1.put hS hj hg (H.sg i hi);have hb:=JA (o:=some g) rfl (Jz S (f i)) (j*8) _ (JA (o:=some g) rfl (Jz S (f j)) (i*8) w (Bt.refl _ _));rw[apA]at H2;have o0:=H.own;have o1:=H1.own;simp only[Jz]at ri rj H2 hb o1;have sa:=hS.one (f i).l;have sb:=hS.one (f j).l;obtain⟨a1,a2,a3,a4,a5,a6,a7,ea⟩:=eight (hS.len (f i).l);obtain⟨b1,b2,b3,b4,b5,b6,b7,eb⟩:=eight (hS.len (f j).l);rw[ea]at ri H2 hb sa;rw[eb]at rj H2 hb o1 sb;have tk:=λ(n:Int)=>xY (.int .i64 n) rfl;obtain⟨t1,t2,t3,t4,t5,t6,t7⟩:=Gp sa;obtain⟨v1,v2,v3,v4,v5,v6,v7⟩:=Gp sb;obtain⟨p0,p1,p2,p3,p4,p5,p6,p7⟩:=UY ri;obtain⟨q0,q1,q2,q3,q4,q5,q6,q7⟩:=UY rj;obtain⟨⟨-,z0⟩,⟨⟨_,c1⟩,z1⟩,⟨⟨_,c2⟩,z2⟩,⟨⟨_,c3⟩,z3⟩,⟨⟨_,c4⟩,z4⟩,⟨⟨_,c5⟩,z5⟩,⟨⟨_,c6⟩,z6⟩,⟨_,c7⟩,z7⟩:=adA o0 (o:=i*8) ae (.int .i64 ((zQ (f j):Nat):Int)) b1 b2 b3 b4 b5 b6 b7;obtain⟨⟨⟨_,d0⟩,y0⟩,⟨⟨_,d1⟩,y1⟩,⟨⟨_,d2⟩,y2⟩,⟨⟨_,d3⟩,y3⟩,⟨⟨_,d4⟩,y4⟩,⟨⟨_,d5⟩,y5⟩,⟨⟨_,d6⟩,y6⟩,⟨_,d7⟩,y7⟩:=adA o1 (o:=j*8) ae (.int .i64 ((zQ (f i):Nat):Int)) a1 a2 a3 a4 a5 a6 a7;simp only[World.setCells,dw,Nat.reduceAdd]at d0 d1 d2 d3 d4 d5 d6 d7 y0 y1 y2 y3 y4 y5 y6 y7 H2 hb;clear H H1 o0 o1 ri rj ea eb sa sb;generalize zQ (f i)=ka at*;generalize zQ (f j)=kb at*;go_enter func124,ntmps124;go_wp2;go_region;go_end0;refine⟨rfl,?_,?_⟩
 .with_reducible exact H2.abq
 .show Bt (some g) w _
  with_reducible exact hb.abq
end
section
variable {S:Nat->List Value}
def am5(S:Nat->List Value)(B h n:Nat)(f:Nat->qY)(v:Value)(w:World)(e:Ending)(w':World):Prop:=e=.returned (.tuple #[])/\∃f',HI S B h n f' v w'/\qN n f f'/\Hp f' n/\Bt v.ownBlock w w'
theorem abr(hS:Sr S)(B h n i:Nat)(f:Nat->qY)(v:Value)(w:World)(H:HI S B h n f v w)(hi:i<n)(hu:abj f n i):
  Calls prog 103 #[.pointer (some ⟨h,0,none⟩),.int .i64 ((i:Nat):Int)] w λe w'=>am5 S B h n f v w e w':=by
 obtain⟨g,cap,rfl,hg,hnc,sF⟩:=H.form ae;have Xe:cap<=9223372036854775807:=sF;clear sF;go_enter func103,ntmps103;go_wp2
 go_loopw [1,4] (λvi _ wr=>∃(i:Nat)(f':Nat->qY),i<n/\vi=.int .i64 ((i:Nat):Int)/\HI S B h n f' (.slice (some ⟨g,0,none⟩) n cap) wr/\qN n f f'/\abj f' n i/\Bt (some g) w wr) (λvi _ _=>(intOf vi).toNat)
 case atStart=>exact⟨i,f,hi,rfl,H,qN.refl n f,hu,Bt.refl _ _⟩
 case round=>
  clear H hi hu;obtain⟨i,f',hi,rfl,H,hR,hu,hb⟩:=hrel;by_cases h0:0<i
  .have h0':(0:Int)<(i:Int):=ae;have a0:=H.var.cell (i:=0) ae;have hp:(i-1)/2<i:=ae
   have hq:Int.tdiv ((i:Int)-1) 2=(((i-1)/2:Nat):Int):=by rw[aui ae];omega
   have c1:=H.key hS (i:=(i-1)/2) ae;have c2:=H.key hS hi;have hlk:=adz (H.sg i hi) (H.sg ((i-1)/2) ae);have cs:=λm=>XW hS B h n ((i-1)/2) i f' _ (wr.drewN m) (H.drew m) ae hi
   have hus:=λhl=>ae6 hu h0 hi hl
   have uw:=λhl=>Tq hu (λ_=>hl)
   have hRs:=hR.trans (qN.swp f' (show(i-1)/2<n by omega) hi);generalize hpp:(i-1)/2=p at*;have hp':(p:Int)<(n:Int):=ae;have JQ:(i:Int)<(n:Int):=ae;by_cases hkk:((zQ (f' p):Nat):Int)<=((zQ (f' i):Nat):Int)
   rotate_left
   .have hle:decide (((zQ (f' p):Nat):Int)<=((zQ (f' i):Nat):Int))=false:=dP hkk;have hl:Hp.lt (f' i).k (f' p).k=true:=by rw[hlk];exact iq ae
    have aoP:=hus hl;clear hus uw hl
    go_wp2_with fail
    go_big_quiet (fail)
    have cs':=cs nq;have hbq:=hb.drew nq;have hbs:=hbq.size;clear cs H hb;generalize wr.drewN nq=wq at*
    go_wp2_with(first|(go_at_call 124;(with_reducible refine cs'.mono ?_);rintro e w2 ⟨rfl,hH2,sZ⟩))
    go_roundw
    case rel=>exact⟨p,_,ae,rfl,hH2,hRs,aoP,hbq.trans sZ⟩
    case measure=>simp[intOf];omega
   .have hle:decide (((zQ (f' p):Nat):Int)<=((zQ (f' i):Nat):Int))=true:=iq hkk;have hl:=uw (show Hp.lt (f' i).k (f' p).k=false by rw[hlk];exact dP ae);clear hus uw
    go_wp2_with fail
    go_big_quiet (fail)
    have H2:=H.drew nq;have hbq:=hb.drew nq;clear cs H hb;generalize wr.drewN nq=wq at*;go_wp2;go_end0;exact⟨rfl,f',H2,hR,hl,hbq⟩
  .have h0':¬((0:Int)<(i:Int)):=ae;go_wp2;go_end0;exact ax1
theorem Wu(hS:Sr S)(B h n i:Nat)(f:Nat->qY)(v:Value)(w:World)(H:HI S B h n f v w)(hn:n<=4398046511104)(hi:i<n\/i=0)(hu:abk f n i):
  Calls prog 104 #[.pointer (some ⟨h,0,none⟩),.int .i64 ((i:Nat):Int)] w λe w'=>am5 S B h n f v w e w':=by
 go_enter func104,ntmps104;go_wp2
 go_loopw [1,4] (λvi _ wr=>∃(i:Nat)(f':Nat->qY),(i<n\/i=0)/\vi=.int .i64 ((i:Nat):Int)/\HI S B h n f' v wr/\qN n f f'/\abk f' n i/\Bt v.ownBlock w wr) (λvi _ _=>n-(intOf vi).toNat)
 case atStart=>exact⟨i,f,hi,rfl,H,qN.refl n f,hu,Bt.refl _ _⟩
 case round=>
  clear H hi hu;obtain⟨i,f',hi,rfl,H,hR,hu,hb⟩:=hrel;obtain⟨l1,l2,l3⟩:=ae9 n f' i;have k1:=Q8 hS B h n (2*i+1) (2*i+2) f' v wr H ae ae;generalize ha:MV n f' (2*i+1) (2*i+2)=a at*;have k2:=λw' (H':HI S B h n f' v w')=>Q8 hS B h n i a f' v w' H' (λ_=>ae) ae
  have dr:∀{w1 w2:World},HI S B h n f' v w1->Bt v.ownBlock w w1->(∃m,w2=w1.drewN m)->HI S B h n f' v w2/\Bt v.ownBlock w w2:=λ{w1 w2} h1 h2 ⟨m,e⟩=>avr;have e1:2*((i:Nat):Int)+1=((2*i+1:Nat):Int):=ae;have e2:2*((i:Nat):Int)+2=((2*i+2:Nat):Int):=ae;by_cases hx:a<n/\Hp.lt (f' a).k (f' i).k=true
  .have el:MV n f' i a=a:=by unfold MV;rw[aj hx]
   have O9:i<n:=ae;rw[el]at k2;have hs:=ae8 hu (show 0<a by omega) hx.1 ae hx.2 (l2 hx.1);have cs:=λw' (H':HI S B h n f' v w')=>XW hS B h n a i f' v w' H' hx.1 O9
   have hRs:=hR.trans (qN.swp f' hx.1 O9);have hne:((a:Int)==(i:Int))=false:=az;have qE:=hx.1;clear hx el l2 l3 hu ha;generalize Gz:2*i+1=i1 at*;generalize hi3:2*i+2=i2 at*
   go_wp2_with(first
    |(go_at_call 125;(with_reducible refine k1.mono ?_);rintro e w1 ⟨rfl,BB⟩;(obtain⟨H1,t_⟩:=dr H hb BB);clear BB H hb k1)
    |(go_at_call 125;(with_reducible refine(k2 _ H1).mono ?_);rintro e w2 ⟨rfl,xG⟩;(obtain⟨H2,sZ⟩:=dr H1 t_ xG);clear xG H1 t_ k2)
    |(go_at_call 124;(with_reducible refine(cs _ H2).mono ?_);rintro e w3 ⟨rfl,H3,vK⟩))
   go_roundw
   case rel=>exact⟨a,_,.inl qE,rfl,H3,hRs,hs,sZ.trans vK⟩
   case measure=>simp[intOf];omega
  .have el:MV n f' i a=i:=by unfold MV;rw[ah hx]
   rw[el]at k2
   have hs:Hp f' n:=ae7 hu λc h0 hc hci=>by
    rcases l3 with l3|l3
    .rcases hy:Hp.lt (f' a).k (f' i).k with _|_
     .exact le_trans hy (l2 l3 c h0 hc hci)
     .exact absurd ⟨l3,hy⟩ hx
    .exact absurd hci (l3 c h0 hc)
   have hne:((i:Int)==(i:Int))=true:=ai;clear hx el l2 l3 hu ha;generalize Gz:2*i+1=i1 at*;generalize hi3:2*i+2=i2 at*
   go_wp2_with(first
    |(go_at_call 125;(with_reducible refine k1.mono ?_);rintro e w1 ⟨rfl,BB⟩;(obtain⟨H1,t_⟩:=dr H hb BB);clear BB H hb k1)
    |(go_at_call 125;(with_reducible refine(k2 _ H1).mono ?_);rintro e w2 ⟨rfl,xG⟩;(obtain⟨H2,sZ⟩:=dr H1 t_ xG);clear xG H1 t_ k2))
   go_end0;exact⟨rfl,f',H2,hR,hs,sZ⟩
