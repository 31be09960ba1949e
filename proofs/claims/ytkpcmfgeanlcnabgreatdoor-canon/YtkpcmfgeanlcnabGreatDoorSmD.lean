/-
  One call of cairn.Encode beside those that leave: up to its fork.
-/
import Derived.Test.YtkpcmfgeanlcnabGreatDoorEnY
import Derived.Test.YtkpcmfgeanlcnabGreatDoorSmC
namespace Go.Proofs.YtkpcmfgeanlcnabGreatDoor
open Go.RowKit Go.Deep Go.Lf Go.Conc Go.ConcN Go.Gh Go.Hp
open Go.ConcR (Payload WgAt wgBlock)
def ShunX (X:Nat→Prop) (l:Loc):Prop:=∃ a:Addr,l = .cell a∧X a.block
theorem dokX (X:Nat→Prop):Dok X (DM (ShunX X)):=dok_dm fun _ h=>h
theorem PFc.tp {k n L:Nat} {l:List UInt8} {bk bd P F ba C:Nat} {w:World} (h:PFc k n L l bk bd P F ba C w) (τ:Nat→Question→Nat) (d:Nat):PFc k n L l bk bd P F ba C { w with tape:=τ,drawn:=d }:=⟨h.vk,h.vd,h.hP,h.hF,h.va,h.pay,h.new⟩
theorem PFc.alloc {k n L:Nat} {l:List UInt8} {bk bd P F ba C:Nat} {w:World} (h:PFc k n L l bk bd P F ba C w) (o:Obj):PFc k n L l bk bd P F ba C (w.alloc o):=by
  obtain ⟨n1,n2,n3,n4,n5,n6⟩:=h.new
  exact ⟨cell_alloc o h.vk,cell_alloc o h.vd,fun j hj=>cell_alloc o (h.hP j hj),fun i hi=>cell_alloc o (h.hF i hi),cell_alloc o h.va,(Below.heap_alloc _ _ _ (by omega)).trans h.pay,⟨n1,n2,n3,n4,n5,by simp;omega⟩⟩
theorem srt_of {m:Nat} {g:Nat→Ent} (h:∀ i,i+1 < m→Hp.lt (g i).k (g (i+1)).k=true):Srt m g:=fun i hi=>by
  have h1:=h i hi
  rcases Hp.lt_tri (g i).k (g (i+1)).k with ⟨_,h2,_⟩ | ⟨_,h2,_⟩ | ⟨_,h2,_⟩
  · exact h2
  · rw [h1] at h2;cases h2
  · rw [h1] at h2;cases h2
structure FkD (K N C m:Nat) (f:Nat→Ent) (d:Ent→List UInt8) (v0:World) (g:Nat→Ent) (T18 T32' T:Array Value) (rest:List Nat) (x vn vs vj:Value) (pc gm cm bh bk bd Pp Ff ba Cc:Nat) (wc u w2 v3:World):Prop where
  t18:T28 T18
  ta:TA pc vn vs (.slice (some ⟨gm,0,none⟩) (mlen m g) cm) (.slice (some ⟨bh,0,none⟩) N N) x T32'
  lf:Left x rest
  tp:TPc bk bd ba T
  pf:PFc K N (lenC K (joinD (fun j=>d (g j)) m).length) (joinD (fun j=>d (g j)) m) bk bd Pp Ff ba Cc v3
  low:∀ b,b < w2.heap.size→b < Cc
  ge:w2.heap.size≤bk∧w2.heap.size≤bd∧w2.heap.size≤Pp∧w2.heap.size≤Ff
  fa:FA K N C m g (joinD (fun j=>d (g j)) m) pc gm bh vn vs vj wc u w2
  b3:Bel w2.heap.size w2 v3
  vu:Bel v0.heap.size v0 u
  re:Rearr m f g
  lt:∀ i,i+1 < m→Hp.lt (g i).k (g (i+1)).k=true
  nm:NamesOk (namesOf m g)
  fw:FewOk (namesOf m g) (sizesOf m g)
  jl:(joinD (fun j=>d (g j)) m).length≤65536
def AtF (X:Nat→Prop) (Y:Nat→Option Obj) (K N C m:Nat) (f:Nat→Ent) (d:Ent→List UInt8) (fr:Frame) (cs:List Frame) (v0:World) (gr:Goroutine) (W:World):Prop:=
  ∃ (g:Nat→Ent) (T18 T32' T:Array Value) (rest:List Nat) (x vn vs vj:Value) (pc gm cm bh bk bd Pp Ff ba Cc:Nat) (wc u w2 v3:World),
    gr=G ((base 36).at ⟨T,[]⟩ [.code gc3]) (frameA T32' rest :: frameen T18 :: fr :: cs)∧SimT X Y W v3∧FkD K N C m f d v0 g T18 T32' T rest x vn vs vj pc gm cm bh bk bd Pp Ff ba Cc wc u w2 v3
theorem to_fork {X:Nat→Prop} {Y:Nat→Option Obj} {D:Nat→World→Array Event→Prop} (hDk:Dok X D) {K N C m cap:Nat} {bo:Option Addr} {f:Nat→Ent} {d:Ent→List UInt8} {v:World} {fr:Frame} {cs:List Frame} (hA:Args v bo m cap f d) (hP:ParamsOk (K:Int) (N:Int) (C:Int)) (hNf:NamesFit m f) (hFw:∀ g,Rearr m f g→Srt m g→FewOk (namesOf m g) (sizesOf m g)) (hT:Tab v) :
    ReaI Tryz.prog X Y D (AtF X Y K N C m f d fr cs v) 9 (fr :: cs) [.code enBody] ⟨#[.slice bo m cap,.agg #[.int .i64 ((K:Nat):Int),.int .i64 ((N:Nat):Int),.int .i64 ((C:Nat):Int)]]++Array.replicate 26 undef,[]⟩ v:=by
  obtain ⟨⟨q1,q2,q3⟩,q4,q5⟩:=id hP
  refine to_arch hDk hA hP hNf fun T18 g bo2 cap2 wc hT18 hR hlt hBc hbc => ?_
  have hS:=srt_of hlt
  have hN:=(names_iff hR hS).2 hNf
  have hF:=hFw g hR hS
  have hD:∀ i,i < m→DataAt wc (g i) (d (g i)):=fun i hi=>by
    obtain ⟨j,hj,e⟩:=hR.from hi
    rw [e]
    exact (hA.dat j hj).bel hbc (Nat.le_refl _)
  have hjl:(joinD (fun j=>d (g j)) m).length≤65536:=by
    rw [← tot_sizes d g m (fun i hi=>(hD i hi).1)]
    exact hF.2.1
  refine to_cols (d:=d) hDk (by omega) hA.hm hBc hD hN hF (hT.bel hbc hT.1) fun T32' rest x vn vs vj pc gm cm bh u w2 hTA hL hFA => ?_
  refine columns_pre hDk (by omega) (by omega) (by omega) hjl hFA.dat fun bk bd Pp Ff ba Cc T v3 hTP hPF hlow hge hb3 => ?_
  intro W hW
  refine .stop fun dd=>⟨g,T18,T32',T,rest,x,vn,vs,vj,pc,gm,cm,bh,bk,bd,Pp,Ff,ba,Cc,wc,u,w2,v3,rfl,hW.at dd,⟨hT18,hTA,hL,hTP,hPF,hlow,hge,hFA,hb3,hbc.trans hFA.wu hbc.size',hR,hlt,hN,hF,hjl⟩⟩
theorem make_group {D:Nat→World→Array Event→Prop} (hD0:∀ n w,n≤w.heap.size→D n w #[]) {cs:List Frame} {bk bd ba:Nat} {T:Array Value} (W:World) (hT:TPc bk bd ba T) :
    ∃ T',(∀ E:EnvC,E.bk=bk→E.bd=bd→E.ba=ba→TB E W.heap.size T')∧∀ Stop:Goroutine→World→Prop,(∀ dd d',Stop (G ((base 36).at ⟨T',[]⟩ [.code gTail]) cs) (((W.at dd).alloc (wgBlock link.tWg 0 0)).at d'))→GoesI Tryz.prog D Stop (G ((base 36).at ⟨T,[]⟩ [.code gc3]) cs) W:=by
  obtain ⟨f,rfl⟩:=hT
  rw [gc3_eq]
  have key:∀ (Stop:Goroutine→World→Prop) (a:Act) (o:Oper) (u:Value),og3[0]? = some o→a.defers=[]→Region.wanted o (yielded og3 a.tmps)=true→(∀ z:World,z.heap.size=W.heap.size→(execOp a.eval o).run Tryz.prog z = .ok (.value u) (z.alloc (wgBlock link.tWg 0 0)))→(∀ z,listed Tryz.prog 36 a o z = #[]) →
      (∀ dd d',Stop (G ((base 36).at (a.put o.dst u) [.code gTail]) cs) (((W.at dd).alloc (wgBlock link.tWg 0 0)).at d'))→GoesI Tryz.prog D Stop (G ((base 36).at a [.code (.seq (.region 3 og3 false) gTail)]) cs) W:=by
    intro Stop a o u ho ha hw hr hl hst
    refine .next rfl fun d1=>⟨_,_,_,stepG_seq,hD0 _ _ (Nat.le_refl _),.next rfl fun d2=>⟨_,_,_,stepG_region,hD0 _ _ (Nat.le_refl _),?_⟩⟩
    rw [ng3]
    simp only [List.range,List.range.loop]
    refine .next rfl fun d3=>⟨_,_,_,stepG_value (b:=base _) ho hw (by intro h;cases h) (hr _ rfl),?_,.next rfl fun d4=>⟨_,_,_,stepG_region_end,hD0 _ _ (Nat.le_refl _),.stop fun d5=>hst d3 d5⟩⟩
    rw [show (base 36).fn=36 from rfl,hl]
    exact hD0 _ _ (by simp [World.at])
  refine ⟨(#[f 0,f 1,f 2,.pointer (some ⟨bk,0,none⟩),f 4,f 5,f 6,.pointer (some ⟨bd,0,none⟩),.pointer (some ⟨ba,0,none⟩),f 9,f 10,f 11,f 12,f 13,f 14,f 15,f 16,f 17,f 18,f 19,f 20,f 21,f 22,f 23,f 24,f 25]:Array Value).setIfInBounds 9 (.pointer (some ⟨W.heap.size,0,none⟩)),fun E h1 h2 h3 => ?_,fun Stop hst => ?_⟩
  · subst h1 h2 h3
    exact ⟨fun i=>if i=9 then undef else f i,rfl⟩
  · refine key Stop _ _ (.pointer (some ⟨W.heap.size,0,none⟩)) (by simp only [og3,qg3];rfl) rfl rfl (fun z hz=>by rw [← hz];go_simp;rfl) (fun z=>listed_nil (by go_simp)) ?_
    exact hst
theorem bytes_res (k L:Nat) (l:List UInt8) (bk bd P F ba:Nat) (h0:Nat→Option Obj) (t:Nat):bytesA ((envK k L l bk bd P F ba h0).res k L t)=(u8V (colB k L l t)).toArray:=by
  rw [res_eq,colB_V]
  unfold bytesA numsV
  rw [List.map_map]
  rfl
structure KpX (X:Nat→Prop) (w w':World):Prop where
  os:w'.os=w.os
  output:w'.output=w.output
  size:w.heap.size≤w'.heap.size
  block:∀ b,b < w.heap.size→¬ X b→w'.heap[b]? = w.heap[b]?
set_option maxHeartbeats 4000000 in
set_option maxRecDepth 100000 in
theorem encode_call {Fin:Machine→Trace→Prop} (hpre:∀ m m' ops t,stepT Tryz.prog m=(.next m',ops)→Fin m' (t++ops)→Fin m t) {X:Nat→Prop} {Y:Nat→Option Obj} {e:Nat} {gs:Array Goroutine} {W v0:World} {sl:Option (Nat×Nat)} {t:Trace} {q:Nat→Nat} {fr:Frame} {cs:List Frame} {K N C m cap:Nat} {bo:Option Addr} {f:Nat→Ent} {d:Ent→List UInt8}
    (h0:gs[0]? = some (G ((base 9).at ⟨#[.slice bo m cap,.agg #[.int .i64 ((K:Nat):Int),.int .i64 ((N:Nat):Int),.int .i64 ((C:Nat):Int)]]++Array.replicate 26 undef,[]⟩ [.code enBody]) (fr :: cs))) (hB:Bes Tryz.prog (ShunX X) e gs W t q) (hs:SimT X Y W v0)
    (hA:Args v0 bo m cap f d) (hP:ParamsOk (K:Int) (N:Int) (C:Int)) (hNf:NamesFit m f) (hFw:∀ g,Rearr m f g→Srt m g→FewOk (namesOf m g) (sizesOf m g)) (hT:Tab v0) (he:e+N < 2147483648)
    (hnext:∀ (g:Nat→Ent) (bh Wg:Nat) (ov:Nat→Value) (gs':Array Goroutine) (W':World) (sl':Option (Nat×Nat)) (t':Trace) (q':Nat→Nat) (Y':Nat→Option Obj) (v':World),Rearr m f g→Srt m g→gs'[0]? = some (G (fr.finish (.tuple #[.slice (some ⟨bh,0,none⟩) N N,.int .i64 0])) cs) →
      Bes Tryz.prog (ShunX fun b=>X b∨b=Wg) (e+N) gs' W' t' q' → SimT (fun b=>X b∨b=Wg) Y' W' v' → W.heap.size≤Wg→Sub v0 v' → KpX X W W' → (∀ i,i < N→v'.cell? ⟨bh,i,none⟩=some (ov i)) →
      (∀ i,i < N→OwnB 0 v' (ov i) (shardB K N C (namesOf m g) (sizesOf m g) i (colB K (lenC K (joinD (fun j=>d (g j)) m).length) (joinD (fun j=>d (g j)) m) i)))→Fin (crowd gs' W' sl') t') :
    Fin (crowd gs W sl) t:=by
  obtain ⟨⟨q1,q2,q3⟩,q4,q5⟩:=id hP
  have hs':=hs
  obtain ⟨τ0,dd0,hs0⟩:=hs'
  have hX0:∀ b,X b→b < v0.heap.size:=fun b hb=>hs0.bound b (.inl hb)
  refine late (Fin:=Fin) (Shun:=ShunX X) (e:=e) hpre (fun _ _ _ h=>h) (fun gs1 a1 W1 sl1 t1 q1 h01 hst hB1 => ?_) (to_fork (dokX X) (fr:=fr) (cs:=cs) (Y:=Y) hA hP hNf hFw hT W hs) W.drawn gs sl t q h0 hB
  obtain ⟨g,T18,T32',T,rest,x,vn,vs,vj,pc,gm,cm,bh,bk,bd,Pp,Ff,ba,Cc,wc,u,w2,v3,rfl,hW1,hk⟩:=hst W1.drawn
  replace hW1:SimT X Y W1 v3:=hW1
  letI:OldG:=⟨X⟩
  obtain ⟨n1,n2,n3,n4,n5,n6⟩:=hk.pf.new
  have hsz1:W1.heap.size=v3.heap.size:=by obtain ⟨_,_,h⟩:=hW1;exact h.size
  have hvu:=hk.vu.size'
  have huw:u.heap.size≤w2.heap.size:=hk.fa.bel.size'
  have hX2:∀ b,X b→b < w2.heap.size:=fun b hb=>by have:=hX0 b hb;omega
  have hB1':Bes Tryz.prog (ShO W1.heap.size) e gs1 W1 t1 q1:=hB1.more (fun l h=>.inr h) (fun l h=>h.elim (fun ⟨a,ea,ya⟩=>.inr ⟨a,ea,Nat.le_of_eq ya.symm⟩) .inl)
  obtain ⟨T',hTW,hG⟩:=make_group (D:=DM (ShO W1.heap.size)) (fun n w h=>⟨h,by simp⟩) (cs:=frameA T32' rest :: frameen T18 :: fr :: cs) W1 hk.tp
  refine late (Fin:=Fin) (Shun:=ShO W1.heap.size) (e:=e) hpre (fun _ _ _ h=>h) (fun gs2 a2 W2 sl2 t2 q2 h02 hst2 hB2 => ?_) (hG (fun gr w=>gr=G ((base 36).at ⟨T',[]⟩ [.code gTail]) (frameA T32' rest :: frameen T18 :: fr :: cs)∧∃ dd d',w=((W1.at dd).alloc (wgBlock link.tWg 0 0)).at d') (fun dd d'=>⟨rfl,dd,d',rfl⟩)) W1.drawn gs1 sl1 t1 q1 h01 hB1'
  obtain ⟨rfl,dd,d',hW2⟩:=hst2 W2.drawn
  replace hW2:W2=((W1.at dd).alloc (wgBlock link.tWg 0 0)).at d':=hW2
  generalize hWg:W1.heap.size=Wg at *
  have hS2:SimT X Y W2 (v3.alloc (wgBlock link.tWg 0 0)):=by
    rw [hW2]
    exact (SimT.alloc (o:=wgBlock link.tWg 0 0) (hW1.at dd) (by unfold wgBlock;trivial)).at d'
  have hz2:W2.heap.size=Wg+1:=by rw [hW2];simp [World.at,hWg]
  have hg2:W2.heap[Wg]? = some (wgBlock link.tWg 0 0):=by
    rw [hW2,← hWg]
    exact heap_alloc_new (W1.at dd) _
  have hl2:∀ b,b < Wg→W2.heap[b]? = W1.heap[b]?:=fun b hb=>by
    rw [hW2]
    exact Below.heap_alloc (W1.at dd) _ b (by rw [← hWg] at hb;exact hb)
  obtain ⟨τ2,dd2,hsim⟩:=hS2
  have hPF:=(hk.pf.alloc (wgBlock link.tWg 0 0)).tp τ2 dd2
  have hb3:Bel w2.heap.size w2 { v3.alloc (wgBlock link.tWg 0 0) with tape:=τ2,drawn:=dd2 }:=(hk.b3.trans (Bel.of ((Below.refl v3.heap.size v3).alloc (Nat.le_refl _) _)) hk.b3.size').tp τ2 dd2
  generalize ({ v3.alloc (wgBlock link.tWg 0 0) with tape:=τ2,drawn:=dd2 }:World)=v4 at hsim hPF hb3
  letI:Payload:=⟨33⟩
  letI:Out0:=⟨W2.output,W2.os⟩
  have hLb:(lenC K (joinD (fun j=>d (g j)) m).length)≤65536:=by
    have:=lenC_le (k:=K) (by omega) (joinD (fun j=>d (g j)) m).length
    have:=hk.jl
    omega
  have hEok:EnvCOk (envK K (lenC K (joinD (fun j=>d (g j)) m).length) (joinD (fun j=>d (g j)) m) bk bd Pp Ff ba (fun b=>W2.heap[b]?)) K N (lenC K (joinD (fun j=>d (g j)) m).length):=envK_ok (by omega) (by omega) (by omega)
  have hSF:=sfc_start (lw:=w2.heap.size) rfl hX2 hX2 hk.ge hsim hPF hz2 (by omega)
  have hSp:=spc_start (cs:=frameA T32' rest :: frameen T18 :: fr :: cs) hEok (hTW _ rfl rfl rfl) hSF
  refine fork_at (Fin:=Fin) (ty:=link.tWg) hpre h02 hB2 (fun b hb => ?_) (Nat.lt_succ_self _) (by omega) (by omega) (by omega) hg2 hSF.pay hSp ⟨fun _ _ _ _ r h=>WPr.rely h r,fun _ _ _ _ r h=>KC.rely h r⟩ he rfl rfl (fun ids gs3 a3 W3 lb sl3 t3 q3 h03 ho hos hwk hK hp hres hB3 => ?_)
  · have:=hX2 b hb
    have:=hk.low b this
    omega
  obtain ⟨T1,s0,j,ops,rfl,hTS,hSF',hids⟩:=hK
  have std:∀ b,b < Wg→b≠Cc→W3.heap[b]? = W2.heap[b]?:=fun b hb hc=>hSF'.low.std b (by omega) (by omega) hc
  have hXC:∀ b,X b→b < Wg∧b≠Cc:=fun b hb=>by
    have h1:=hX2 b hb
    have:=hk.low b h1
    omega
  obtain ⟨Y',v',hs3,hk'⟩:=doctorX W3 (fun b=>X b∨b=Wg) (fun b hb=>by
    rcases hb with hb | rfl
    · obtain ⟨cs',t',fr',h1,h2⟩:=hsim.doc b hb
      obtain rfl:=hsim.unf b _ _ _ hb h2
      exact ⟨cs',t',(std b (hXC b hb).1 (hXC b hb).2).trans h1⟩
    · obtain ⟨st,sm,hw⟩:=hwk
      exact ⟨_,_,hw⟩)
  obtain ⟨⟨dN,hd⟩,hcell,hba⟩:=sufc_of hsim hz2 (by omega) hb3 hk.low hPF hk' hX2 hSF' hids hres
  have hblk:∀ {b:Nat} {c:Array Value} {ty:TypeId} {fz:Nat×Nat},w2.heap[b]? = some (.cells c ty fz)→v'.heap[b]? = some (.cells c ty fz):=fun {b c ty fz} h=>by
    have h1:b < w2.heap.size:=(Array.getElem?_eq_some_iff.1 h).1
    have h2:=hk.low b h1
    have h3:v4.heap[b]? = some (.cells c ty fz):=(hb3.blk h1).trans h
    by_cases hx:X b
    · obtain ⟨c1,t1,f1,e1,e2⟩:=hsim.doc b hx
      obtain ⟨c2,t2,f2,e3,e4⟩:=hs3.doc b (.inl hx)
      rw [std b (by omega) (by omega),e1] at e3
      rw [e2] at h3
      cases e3
      cases h3
      exact e4
    · exact hk' b c ty fz (fun hh=>hh.elim hx (by omega)) ((std b (by omega) (by omega)).trans (sim_blockX hsim hx h3))
  have e1:v'.heap.size=W3.heap.size:=hs3.size.symm
  have e2:Wg+1≤W3.heap.size:=Nat.le_trans hSF'.sb.2.1 hSF'.sb.2.2
  have hw2v:w2.heap.size≤v3.heap.size:=hk.b3.size'
  have hus:=hk.fa.us
  have hbh:bh < w2.heap.size:=(Array.getElem?_eq_some_iff.1 hk.fa.sh).1
  have hsub:Sub u v':=⟨by omega,fun b c ty fz hx=>by
    have hxl:=(Array.getElem?_eq_some_iff.1 hx).1
    exact hblk ((hk.fa.bel.blk (by omega)).trans hx)⟩
  have hVA:VA K N (lenC K (joinD (fun j=>d (g j)) m).length) Cc bh dN (joinD (fun j=>d (g j)) m) v':=⟨fun t ht=>(hd t ht).1,fun t ht=>by rw [← bytes_res];exact (hd t ht).2,by have:=hk.low bh hbh;omega⟩
  obtain ⟨bN,cN,rfl,hcN,_⟩:=hk.fa.nm
  obtain ⟨bZ,cZ,rfl,hcZ,_⟩:=hk.fa.sz
  have hTA:=hk.ta
  rw [nameV_length,namesOf_length] at hTA
  rw [intV_length,sizesOf_length] at hTA
  have hD':Dok (fun b=>X b∨b=Wg) (DM (ShO Wg)):=dok_dm fun l h=>h.elim (fun ⟨a,ea,ya⟩=>⟨a,ea,.inr ya⟩) (fun ⟨a,ea,ya⟩=>⟨a,ea,.inl ya⟩)
  refine late (Fin:=Fin) (Shun:=ShO Wg) (e:=e+N) (Stop:=fun gr w=>∃ v5 ov,gr=G (fr.finish (.tuple #[.slice (some ⟨bh,0,none⟩) N N,.int .i64 0])) cs∧SimT (fun b=>X b∨b=Wg) Y' w v5∧LA K N C m (lenC K (joinD (fun j=>d (g j)) m).length) bh g (joinD (fun j=>d (g j)) m) v' N ov v5) hpre (fun _ _ _ h=>h) (fun gs4 a4 W4 sl4 t4 q4 h04 hst4 hB4 => ?_) (backC (X:=fun b=>X b∨b=Wg) (Y:=Y') hD' hTS hba (fun τ dd w1 hw1 => ?_) W3 hs3.t) W3.drawn gs3 sl3 t3 q3 h03 hB3
  · obtain ⟨v5,ov,rfl,hs5,hLA⟩:=hst4 W4.drawn
    replace hs5:SimT (fun b=>X b∨b=Wg) Y' W4 v5:=hs5
    have hsub5:=hLA.kx.sub hsub (by omega)
    have hv0u:Sub v0 u:=⟨hk.vu.size',fun b c ty fz hx=>(hk.vu.blk ((Array.getElem?_eq_some_iff.1 hx).1)).trans hx⟩
    obtain ⟨cur,hc1,hc2,hc3⟩:=hLA.sh
    refine hnext g bh Wg ov gs4 W4 sl4 t4 q4 Y' v5 hk.re (srt_of hk.lt) h04 (hB4.more (fun l h=>h.elim (fun ⟨a,ea,ya⟩=>⟨a,ea,.inr ya⟩) (fun ⟨a,ea,ya⟩=>⟨a,ea,.inl ya⟩)) (fun l ⟨a,ea,ya⟩=>.inl (ya.elim (fun y=>.inr ⟨a,ea,y⟩) (fun y=>.inl ⟨a,ea,y⟩)))) hs5 ?_ ⟨Nat.le_trans hv0u.1 hsub5.1,fun b c ty fz hx=>hsub5.2 b c ty fz (hv0u.2 b c ty fz hx)⟩ ?_ (fun i hi=>cell_of_block hc1 (hc3 i hi)) hLA.own
    · have:W.heap.size=v0.heap.size:=hs0.size
      omega
    · have hz0:W.heap.size=v0.heap.size:=hs0.size
      obtain ⟨τ5,d5,hs5'⟩:=hs5
      obtain ⟨τ1,d1,hs1'⟩:=hW1
      have z5:W4.heap.size=v5.heap.size:=hs5'.size
      have zk:=hLA.kx.size
      refine ⟨?_,?_,by omega,fun b hb hx => ?_⟩
      · have o1:W4.os=v5.os:=hs5'.os
        have o2:=hLA.kx.os
        have o3:W3.os=v'.os:=hs3.os
        have o4:W3.os=W2.os:=hos
        have o5:W2.os=W1.os:=by rw [hW2];rfl
        have o6:W1.os=v3.os:=hs1'.os
        have o7:v3.os=w2.os:=hk.b3.os
        have o8:w2.os=u.os:=hk.fa.bel.os
        have o9:u.os=v0.os:=hk.vu.os
        have o10:W.os=v0.os:=hs0.os
        rw [o1,o2,← o3,o4,o5,o6,o7,o8,o9,o10]
      · have o1:W4.output=v5.output:=hs5'.out
        have o2:=hLA.kx.output
        have o3:W3.output=v'.output:=hs3.out
        have o4:W3.output=W2.output:=ho
        have o5:W2.output=W1.output:=by rw [hW2];rfl
        have o6:W1.output=v3.output:=hs1'.out
        have o7:v3.output=w2.output:=hk.b3.output
        have o8:w2.output=u.output:=hk.fa.bel.output
        have o9:u.output=v0.output:=hk.vu.output
        have o10:W.output=v0.output:=hs0.out
        rw [o1,o2,← o3,o4,o5,o6,o7,o8,o9,o10]
      · have hbC:=hk.low b (by omega)
        have a1:W4.heap[b]? = W3.heap[b]?:=Sim.agree hs3 hs5' (fun hh=>hh.elim hx (by omega)) (hLA.kx.block b (by omega) (by omega))
        have a2:=std b (by omega) (by omega)
        have a3:=hl2 b (by omega)
        have a4:W1.heap[b]? = W.heap[b]?:=Sim.agree hs0 hs1' hx ((hk.b3.blk (by omega)).trans ((hk.fa.bel.blk (by omega)).trans (hk.vu.blk (by omega))))
        rw [a1,a2,a3,a4]
  · refine backA (v:=v') hD' hTA hk.lf (fun T5 hT5 => ?_) w1 hw1
    refine archLoop (v0:=v') (u:=u) (dN:=dN) (l:=(joinD (fun j=>d (g j)) m)) (L:=(lenC K (joinD (fun j=>d (g j)) m).length)) hD' (by omega) (by omega) hLb hk.nm hk.fw hk.fa.par hk.fa.man hk.fa.gml hk.fa.tab (by omega) hsub hVA ⟨_,hblk hk.fa.sh⟩ (fun v2 ov hLA => ?_) N 0 T5 v' (fun _=>undef) (by omega) hT5 ⟨KX.refl _ _,⟨_,hblk hk.fa.sh,size_madeCells _ _,fun t ht=>absurd ht (by omega)⟩,fun t ht=>absurd ht (by omega)⟩
    exact backEn hD' hk.t18 (fun w hw=>.stop fun d6=>⟨v2,ov,rfl,hw.at d6,hLA⟩)
#print axioms encode_call
end Go.Proofs.YtkpcmfgeanlcnabGreatDoor
namespace Go.Proofs.YtkpcmfgeanlcnabGreatDoor
open Go.RowKit Go.Deep Go.Lf Go.Conc Go.Hp
section
variable {P:Program} {X:Nat→Prop} {Y:Nat→Option Obj} {D:Nat→World→Array Event→Prop} {Stop:Goroutine→World→Prop} {f:FuncId} {k:List Item} {cs:List Frame} {v:World}
end
section
variable {X:Nat→Prop} {Y:Nat→Option Obj} {D:Nat→World→Array Event→Prop} {Stop:Goroutine→World→Prop} {w:World} {K N C m cap:Nat} {bo:Option Addr} {f:Nat→Ent} {d:Ent→List UInt8} {fr:Frame} {cs:List Frame}
end
def turn (f:Nat→Ent) (xs:List Nat):Nat→Ent:=fun j=>f (xs.getD j 0)
theorem owns_bel {w w':World} {B e z n B':Nat} {v:Value} {xs:List Value} (h:w.ownsRow B e z v n xs) (hb:Bel B' w w') (hB:w.heap.size≤B'):w'.ownsRow B e z v n xs:=owns_keep' h fun g hg=>hb.blk (Nat.lt_of_lt_of_le (h.lt g hg).2 hB)
structure SmP (K N C m:Nat) (f:Nat→Ent) (D:Nat→List UInt8) (pb:Nat) (vb:Value) (w:World):Prop where
  par:RowAt w pb [.int .i64 ((K:Nat):Int),.int .i64 ((N:Nat):Int),.int .i64 ((C:Nat):Int)] 24
  own:∃ B,w.ownsRow B 42 2 vb m (blobL m f)
  nm:∀ j,j < m→(f j).k=nmOf j
  len:∀ j,j < m→(D j).length < 14
  dat:∀ j,j < m→∃ B,w.ownsRow B 5 1 (f j).d (D j).length (u8V (D j))
  hm:m≤5
structure SmS (h0 K N C m:Nat) (f:Nat→Ent) (D:Nat→List UInt8) (xs:List Nat) (pb:Nat) (vb vt:Value) (w:World):Prop where
  pre:SmP K N C m f D pb vb w
  owt:∃ B,h0≤B∧w.ownsRow B 42 2 vt m (blobL m (turn f xs))
  once:Once m xs
theorem Ints.bel {w w':World} {v:Value} {zs:List Int} {B:Nat} (h:Ints w v zs) (hb:Bel B w w') (hB:w.heap.size≤B):Ints w' v zs:=by
  refine ⟨h.in64,?_⟩
  rcases h.lies with h1 | ⟨b,off,cap,h1,h2,h3⟩
  · exact .inl h1
  · refine .inr ⟨b,off,cap,h1,Nat.lt_of_lt_of_le h2 hb.size',fun j z hz => ?_⟩
    have:=h3 j z hz
    unfold World.cell? at this ⊢
    rw [hb.blk (Nat.lt_of_lt_of_le h2 hB)]
    exact this
section
variable {X:Nat→Prop} {Y:Nat→Option Obj} {D:Nat→World→Array Event→Prop} {Stop:Goroutine→World→Prop} {w:World}
end
end Go.Proofs.YtkpcmfgeanlcnabGreatDoor
