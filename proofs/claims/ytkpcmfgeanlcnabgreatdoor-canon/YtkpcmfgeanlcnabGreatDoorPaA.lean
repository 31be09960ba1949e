/-
  How the program reads a shard: a Reader: made, asked whether it is closed.
  How the program reads a shard: a Reader fed and finished; Parse.
  How the program reads a shard: a Reader finished.
  The program's Parse.
  What the statements' own comparison of two shards answers.
-/
import Derived.Test.YtkpcmfgeanlcnabGreatDoorPrV
import Derived.Test.YtkpcmfgeanlcnabGreatDoorErD
import Derived.Lib.Builder
namespace Go.Proofs.YtkpcmfgeanlcnabGreatDoor
open Go.RowKit Go.Deep
set_option maxHeartbeats 2000000 in
set_option maxRecDepth 100000 in
theorem end_dead (rb:Nat) (l:List UInt8) (w:World) (hD:Dead w rb l):Calls Tryz.prog 41 #[.pointer (some ⟨rb,0,none⟩)] w fun q w'=>EndPost 0 w l (fun _=>False) q w':=by
  have hb0:=(Below.refl w.heap.size w).alloc (Nat.le_refl _) (.cells zero7.toArray 36)
  have hx0:RowAt (w.alloc (.cells zero7.toArray 36)) w.heap.size zero7 36:=RowAt.made w _ _
  have hD0:Dead (w.alloc (.cells zero7.toArray 36)) rb l:=by
    obtain ⟨v,d,e,hd,hR,hC,h4,hE⟩:=hD
    exact ⟨v,d,e,hd,RowAt.later hR (S:=fun _=>False) (.of_below hb0) (RowAt.lt hR) id,hC.under hb0,h4,hE⟩
  have K:=take_dead rb l (.slice none 0 0) _ hD0
  unfold EndPost
  obtain ⟨v,d,e,hd,hR,hC,h4,hE⟩:=hD0
  have hpe:parseE l = .error e:=by have:=hE [];rwa [List.append_nil] at this
  rw [hpe]
  have K2:Calls Tryz.prog 39 #[.pointer (some ⟨rb,0,none⟩),.slice none 0 0] (w.alloc (.cells zero7.toArray 36)) fun q w'=>w' = w.alloc (.cells zero7.toArray 36)∧∃ v d,d≤2∧q = .returned v∧Chain w' d v e.1 e.2:=by
    refine K.mono ?_
    rintro q w' ⟨rfl,v',d',e',k1,k2,k3,k4,k5⟩
    have:=k5 []
    rw [List.append_nil,hpe] at this
    cases this
    exact ⟨rfl,v',d',k1,k2,k3⟩
  clear K hD hpe hE hR hC hd
  unfold zero7 shardL at hb0 hx0 K2
  go_enter Tryz.func41,Tryz.ntmps41
  go_upto_region 1 with (fail)
  generalize hw0:w.alloc _=w0 at hb0 hx0 K2 ⊢
  clear hw0
  have c0:=hx0.cell (i:=0) rfl
  have c1:=hx0.cell (i:=1) rfl
  have c2:=hx0.cell (i:=2) rfl
  have c3:=hx0.cell (i:=3) rfl
  have c4:=hx0.cell (i:=4) rfl
  have c5:=hx0.cell (i:=5) rfl
  have c6:=hx0.cell (i:=6) rfl
  have f0:=hx0.frozen
  go_wp2_with (first | (go_at_call 39;with_reducible refine K2.mono ?_;rintro q w1 ⟨hw1,v,d,hd,rfl,g2⟩;obtain rfl:=hw1.symm;obtain ⟨ty,x,rfl⟩:=g2.iface))
  obtain ⟨hF,hG⟩:=set7 (b0:=.int .i64 0) (b1:=.int .i64 0) (b2:=.int .i64 0) (b3:=.int .i64 0) (b4:=.slice none 0 0) (b5:=.slice none 0 0) (b6:=.slice none 0 0) hx0
  have hC:=g2.other hx0 (by decide) (by decide) hG
  refine bodyPost_ret (results_cell_1 (p:=2) (u:=3) rfl _ _ w.heap.size 36 _ (0,0) _ (by rfl) hF Tryz.underlying36 rfl (by kernel_rfl)) rfl ?_
  exact ⟨(But.of_below hb0).step hG (fun k hk e=>by omega),_,d,hd,rfl,hC⟩
def RdrAt (w:World) (xb:Nat) (m r:Option Addr):Prop:=RowAt w xb [.pointer m,.pointer r] 93
theorem ptrInfo:∃ j,Tryz.prog.info? 93=some j:=Option.isSome_iff_exists.1 (by kernel_rfl)
theorem neq_same (a:Addr) (w:World):(binOp .neq 60 (.pointer (some a)) (.pointer (some a))).run Tryz.prog w = .ok (.bool false) w:=by
  obtain ⟨j,hj⟩:=ptrInfo
  exact Lib.run_neq_ptr_same w a Tryz.underlying60 hj
set_option maxHeartbeats 1000000 in
set_option maxRecDepth 100000 in
theorem closed_open (xb rb:Nat) (w:World) (h:RdrAt w xb (some ⟨xb,0,none⟩) (some ⟨rb,0,none⟩)):Calls Tryz.prog 38 #[.pointer (some ⟨xb,0,none⟩)] w fun q w'=>q = .returned (.bool false)∧w' = w:=by
  have c0:=RowAt.cell h (i:=0) rfl
  have c1:=RowAt.cell h (i:=1) rfl
  have e1:=neq_same ⟨xb,0,none⟩
  go_enter Tryz.func38,Tryz.ntmps38
  go_wp2
  go_ret
  exact ⟨rfl,rfl⟩
def St.zero:St:=⟨0,0,0,0,[],[],[],0,0,0,0,0⟩
theorem stok_zero:StOk St.zero [] []:=⟨fun x=>.head rfl rfl rfl,⟨by simp [St.zero],fun i hi=>by simp at hi⟩,⟨by decide,by decide,by decide,by decide,by decide,by decide⟩,⟨fun _=>rfl,(fun h=>absurd h (by decide)),(fun h=>absurd h (by decide))⟩,fun _=>by simp,fun _=>rfl⟩
set_option maxHeartbeats 1000000 in
set_option maxRecDepth 100000 in
theorem newReader_any (w:World):Calls Tryz.prog 21 #[] w fun q w'=>∃ xb rb,q = .returned (.pointer (some ⟨xb,0,none⟩))∧RdrAt w' xb (some ⟨xb,0,none⟩) (some ⟨rb,0,none⟩)∧Live w.heap.size w' rb [] (.slice none 0 0) (.slice none 0 0)∧w.heap.size≤rb∧w.heap.size≤xb∧Below w.heap.size w w':=by
  go_enter Tryz.func21,Tryz.ntmps21
  go_wp2
  go_ret
  have hb1:=(Below.refl w.heap.size w).alloc (Nat.le_refl _) (.cells (St.zero.rd (.slice none 0 0) (.slice none 0 0) (.slice none 0 0) (.slice none 0 0) .nilIface).cells.toArray 91)
  have hR1:RdAt (w.alloc (.cells (St.zero.rd (.slice none 0 0) (.slice none 0 0) (.slice none 0 0) (.slice none 0 0) .nilIface).cells.toArray 91)) w.heap.size (St.zero.rd (.slice none 0 0) (.slice none 0 0) (.slice none 0 0) (.slice none 0 0) .nilIface):=RowAt.made w _ _
  have hs1:(w.alloc (.cells (St.zero.rd (.slice none 0 0) (.slice none 0 0) (.slice none 0 0) (.slice none 0 0) .nilIface).cells.toArray 91)).heap.size=w.heap.size+1:=by simp
  have key:∀ w1:World,Below w.heap.size w w1→RdAt w1 w.heap.size (St.zero.rd (.slice none 0 0) (.slice none 0 0) (.slice none 0 0) (.slice none 0 0) .nilIface)→w1.heap.size=w.heap.size+1 →
      RdrAt (w1.alloc (.cells #[.pointer (some ⟨w.heap.size+1,0,none⟩),.pointer (some ⟨w.heap.size,0,none⟩)] 93)) (w.heap.size+1) (some ⟨w.heap.size+1,0,none⟩) (some ⟨w.heap.size,0,none⟩)∧Live w.heap.size (w1.alloc (.cells #[.pointer (some ⟨w.heap.size+1,0,none⟩),.pointer (some ⟨w.heap.size,0,none⟩)] 93)) w.heap.size [] (.slice none 0 0) (.slice none 0 0)∧Below w.heap.size w (w1.alloc (.cells #[.pointer (some ⟨w.heap.size+1,0,none⟩),.pointer (some ⟨w.heap.size,0,none⟩)] 93)):=by
    intro w1 h1 h2 h3
    have hb2:=(Below.refl w1.heap.size w1).alloc (Nat.le_refl _) (.cells #[.pointer (some ⟨w.heap.size+1,0,none⟩),.pointer (some ⟨w.heap.size,0,none⟩)] 93)
    have hX:=RowAt.made w1 [.pointer (some ⟨w.heap.size+1,0,none⟩),.pointer (some ⟨w.heap.size,0,none⟩)] 93
    rw [h3] at hX
    refine ⟨hX,⟨St.zero,[],.slice none 0 0,.slice none 0 0,⟨RowAt.later h2 (S:=fun _=>False) (.of_below hb2) (RowAt.lt h2) id,World.ownsRow_nil _ _ _ _,World.ownsRow_nil _ _ _ _,World.ownsRow_nil _ _ _ _,World.ownsRow_nil _ _ _ _,(fun g hg=>by cases hg),?_⟩,stok_zero,rfl⟩,h1.trans (hb2.mono h1.size)⟩
    have:=hb2.size
    omega
  obtain ⟨k1,k2,k3⟩:=key _ hb1 hR1 hs1
  exact ⟨w.heap.size+1,w.heap.size,rfl,k1,k2,Nat.le_refl _,by omega,k3⟩
inductive RSt (B:Nat) (w:World) (rb:Nat) (l:List UInt8) (M:Nat→Prop):Prop
  | live (vC vT:Value) (h:Live B w rb l vC vT) (hM:∀ k,Mine rb vC vT k→M k)
  | dead (h:Dead w rb l) (hM:M rb)
theorem RSt.below {B:Nat} {w w':World} {rb:Nat} {l:List UInt8} {M:Nat→Prop} (h:RSt B w rb l M) (hb:Below w.heap.size w w'):RSt B w' rb l M:=by
  cases h with
  | live vC vT h hm=>exact .live vC vT (h.below hb) hm
  | dead h hm=>
    obtain ⟨v,d,e,hd,hR,hC,h4,hE⟩:=h
    exact .dead ⟨v,d,e,hd,RowAt.later hR (S:=fun _=>False) (.of_below hb) (RowAt.lt hR) id,hC.under hb,h4,hE⟩ hm
theorem Pt.less {w:World} {M M':Nat→Prop} {v:Value} {p:List UInt8} (h:Pt w M v p) (hM:∀ k,M' k→M k):Pt w M' v p:=by
  rcases h with h | ⟨ad,c,e,h1,h2,h3⟩
  · exact .inl h
  · exact .inr ⟨ad,c,e,h1,fun x y=>h2 x (hM _ y),h3⟩
def TakeG (B:Nat) (w:World) (rb:Nat) (M:Nat→Prop) (L:List UInt8) (q:Ending) (w':World):Prop:=
  But w.heap.size M w w' ∧ (∃ M',RSt B w' rb L M' ∧ ∀ k,M' k→k < w'.heap.size∧(k < w.heap.size→M k))∧match parseE L with
  | .error e=>∃ v d,d≤2∧q = .returned v∧Chain w' d v e.1 e.2
  | .ok _=>q = .returned .nilIface
section
variable (B rb:Nat) (l p:List UInt8) (M:Nat→Prop) (vp:Value) (w:World) (hR:RSt B w rb l M) (hP:Pt w M vp p) (hlen:l.length+p.length≤4611686018427387904) (hTab:Tab w) (hPow:Pow w) (hB16:5≤B) (hrB:B≤rb) (a:Addr) (hE:Early w a)
include hR hP hlen hTab hPow hB16 hrB hE in
theorem take_any:Calls Tryz.prog 39 #[.pointer (some ⟨rb,0,none⟩),vp] w fun q w'=>TakeG B w rb M (l++p) q w':=by
  cases hR with
  | live vC vT h hm=>
    have hrl:rb < w.heap.size:=h.lt.2 _ (.inl rfl)
    refine (take_live B rb l p vC vT vp w h (hP.less hm) hlen hTab hPow hB16 hrB a hE).mono ?_
    rintro q w' ⟨h1,h2⟩
    refine ⟨h1.mono (Nat.le_refl _) hm,?_⟩
    have sub:∀ {vC' vT':Value},Live B w' rb (l++p) vC' vT' → (∀ k,k < w.heap.size→Mine rb vC' vT' k→Mine rb vC vT k)→∀ k,Mine rb vC' vT' k→k < w'.heap.size∧(k < w.heap.size→M k):=fun hl hs k hk=>⟨hl.lt.2 k hk,fun q=>hm k (hs k q hk)⟩
    rcases h2 with ⟨v,d,e,k1,k2,k3,k4,k5,k6⟩ | ⟨k0,s,vN,vS,vC',vT',m1,m2,m3,m4,m5,m6⟩
    · rw [k4]
      refine ⟨?_,v,d,k1,k2,k3⟩
      by_cases q4:e.1=4
      · obtain ⟨vC',vT',n1,n2⟩:=k6 q4
        exact ⟨_,.live vC' vT' n1 (fun _ h=>h),sub n1 n2⟩
      · exact ⟨(· = rb),.dead (k5 q4) rfl,fun k hk=>by subst hk;exact ⟨Nat.lt_of_lt_of_le hrl h1.size,fun _=>hm _ (.inl rfl)⟩⟩
    · rw [m5]
      have hlv:Live B w' rb (l++p) vC' vT':=⟨s,[],vN,vS,m1,m2,m4⟩
      exact ⟨⟨_,.live vC' vT' hlv (fun _ h=>h),sub hlv m6⟩,k0⟩
  | dead h hm=>
    refine (take_dead rb l vp w h).mono ?_
    rintro q w' ⟨rfl,v,d,e,k1,k2,k3,k4,k5⟩
    refine ⟨But.refl _ _ _,?_,?_⟩
    · obtain ⟨v',d',e',j1,j2,j3,j4,j5⟩:=h
      exact ⟨(· = rb),.dead ⟨v',d',e',j1,j2,j3,j4,fun x=>by rw [List.append_assoc];exact j5 (p++x)⟩ rfl,fun k hk=>by subst hk;exact ⟨RowAt.lt j2,fun _=>hm⟩⟩
    · rw [k5 p]
      exact ⟨v,d,k1,k2,k3⟩
end
theorem end_any (B rb:Nat) (l:List UInt8) (M:Nat→Prop) (w:World) (hR:RSt B w rb l M) (hlen:l.length≤4611686018427387904) (hTab:Tab w) (hPow:Pow w) (hB16:5≤B) (hrB:B≤rb) (a:Addr) (hE:Early w a) :
    Calls Tryz.prog 41 #[.pointer (some ⟨rb,0,none⟩)] w fun q w'=>EndPost B w l M q w':=by
  cases hR with
  | live vC vT h hm=>
    refine (end_live B rb l vC vT w hlen hTab hPow hB16 hrB a hE h).mono ?_
    rintro q w' ⟨h1,h2⟩
    exact ⟨h1.mono (Nat.le_refl _) hm,h2⟩
  | dead h hm=>
    refine (end_dead rb l w h).mono ?_
    rintro q w' ⟨h1,h2⟩
    refine ⟨h1.mono (Nat.le_refl _) (fun _ x=>x.elim),?_⟩
    obtain ⟨v,d,e,hd,hR',hC,h4,hE'⟩:=h
    have hpe:parseE l = .error e:=by have:=hE' [];rwa [List.append_nil] at this
    rw [hpe] at h2 ⊢
    exact h2
def feedE (L:List UInt8):Nat×Nat:=match parseE L with
  | .error e=>if e.1=4 then (0,0) else e
  | .ok _=>(0,0)
def FeedPost (B:Nat) (w:World) (xb rb:Nat) (M:Nat→Prop) (L:List UInt8) (q:Ending) (w':World):Prop:=
  q = .returned (.tuple #[.int .i64 ((feedE L).1:Int),.int .i64 ((feedE L).2:Int)])∧But w.heap.size M w w' ∧ (∃ M',RSt B w' rb L M' ∧ ∀ k,M' k→k < w'.heap.size∧(k < w.heap.size→M k))∧RdrAt w' xb (some ⟨xb,0,none⟩) (some ⟨rb,0,none⟩)
section
variable (B xb rb:Nat) (l p:List UInt8) (M:Nat→Prop) (vp:Value) (w:World) (hX:RdrAt w xb (some ⟨xb,0,none⟩) (some ⟨rb,0,none⟩)) (hxM:¬ M xb) (hR:RSt B w rb l M) (hP:Pt w M vp p) (hlen:l.length+p.length≤4611686018427387904) (hTab:Tab w) (hPow:Pow w) (hB16:5≤B) (hrB:B≤rb) (hM16:∀ k,M k→5≤k) (a:Addr) (hE:Early w a) (hT:ErrT w)
set_option maxHeartbeats 2000000 in
set_option maxRecDepth 100000 in
include hX hxM hR hP hlen hTab hPow hB16 hrB hM16 hE hT in
theorem feed_any:Calls Tryz.prog 22 #[.pointer (some ⟨xb,0,none⟩),vp] w fun q w'=>FeedPost B w xb rb M (l++p) q w':=by
  have KC:=closed_open xb rb w hX
  have KT:=take_any B rb l p M vp w hR hP hlen hTab hPow hB16 hrB a hE
  have c1:=RowAt.cell hX (i:=1) rfl
  have hxl:=RowAt.lt hX
  have hsz1:1 < w.heap.size:=cell_lt hT
  have hEb:∀ w',But w.heap.size M w w' → Early w' a:=fun w' h=>hE.but h (by omega) (fun x=>by have:=hM16 0 x;omega)
  have hTb:∀ w',But w.heap.size M w w' → ErrT w':=fun w' h=>(h.cell (p:=⟨1,0,none⟩) hsz1 (fun x=>by have:=hM16 1 x;omega)).trans hT
  have hXb:∀ w',But w.heap.size M w w' → RdrAt w' xb (some ⟨xb,0,none⟩) (some ⟨rb,0,none⟩):=fun w' h=>RowAt.later hX h hxl hxM
  unfold TakeG at KT
  unfold FeedPost feedE
  cases hpe:parseE (l++p) with
  | error e=>
    rw [hpe] at KT
    simp only at KT ⊢
    by_cases q4:e.1=4
    · simp only [if_pos q4]
      clear hR hP hTab hPow hX
      go_enter Tryz.func22,Tryz.ntmps22
      go_wp2_with (first | (go_at_call 38;(with_reducible refine KC.mono ?_);rintro q w1 ⟨rfl,hw1⟩;obtain rfl:=hw1.symm) | (go_at_call 39;(with_reducible refine KT.mono ?_);rintro q w2 ⟨g1,g2,v,d,hd,rfl,g3⟩;have hE2:=hEb _ g1;have ce:w2.cell? ⟨0,0,none⟩=_:=hE2;have KI:=Is_chain d hd v a e.1 e.2 w2 g3 hE2;rw [decide_eq_true q4] at KI;obtain ⟨ty,x,rfl⟩:=g3.iface) | (go_at_call 40;(with_reducible refine KI.mono ?_);rintro q w3 ⟨rfl,hw3⟩;obtain rfl:=hw3.symm))
      go_ret2
      exact ⟨rfl,g1,g2,hXb _ g1⟩
    · simp only [if_neg q4]
      clear hR hP hTab hPow hX
      go_enter Tryz.func22,Tryz.ntmps22
      go_wp2_with (first | (go_at_call 38;(with_reducible refine KC.mono ?_);rintro q w1 ⟨rfl,hw1⟩;obtain rfl:=hw1.symm) | (go_at_call 39;(with_reducible refine KT.mono ?_);rintro q w2 ⟨g1,g2,v,d,hd,rfl,g3⟩;have hE2:=hEb _ g1;have ce:w2.cell? ⟨0,0,none⟩=_:=hE2;have KI:=Is_chain d hd v a e.1 e.2 w2 g3 hE2;rw [decide_eq_false q4] at KI;have KA:=answer_chain d hd v e.1 e.2 w2 g3 (hTb _ g1);obtain ⟨ty,x,rfl⟩:=g3.iface) | (go_at_call 40;(with_reducible refine KI.mono ?_);rintro q w3 ⟨rfl,hw3⟩;obtain rfl:=hw3.symm) | (go_at_call 28;(with_reducible refine KA.mono ?_);rintro q w4 ⟨rfl,g4⟩))
      go_ret2
      exact ⟨rfl,chain_wrap g1 g4,(by obtain ⟨M',z1,z2⟩:=g2;exact ⟨M',z1.below g4,fun k hk=>⟨Nat.lt_of_lt_of_le (z2 k hk).1 g4.size,(z2 k hk).2⟩⟩),RowAt.later (hXb _ g1) (S:=fun _=>False) (.of_below g4) (RowAt.lt (hXb _ g1)) id⟩
  | ok sh=>
    rw [hpe] at KT
    simp only at KT ⊢
    clear hR hP hTab hPow hX
    go_enter Tryz.func22,Tryz.ntmps22
    go_wp2_with (first | (go_at_call 38;(with_reducible refine KC.mono ?_);rintro q w1 ⟨rfl,hw1⟩;obtain rfl:=hw1.symm) | (go_at_call 39;(with_reducible refine KT.mono ?_);rintro q w2 ⟨g1,g2,rfl⟩;have hE2:=hEb _ g1;have ce:w2.cell? ⟨0,0,none⟩=_:=hE2;have KI:=Is_nil a w2;have KA:=answer_nil w2) | (go_at_call 40;(with_reducible refine KI.mono ?_);rintro q w3 ⟨rfl,hw3⟩;obtain rfl:=hw3.symm) | (go_at_call 28;(with_reducible refine KA.mono ?_);rintro q w4 ⟨rfl,g4⟩))
    go_ret2
    exact ⟨rfl,chain_wrap g1 g4,(by obtain ⟨M',z1,z2⟩:=g2;exact ⟨M',z1.below g4,fun k hk=>⟨Nat.lt_of_lt_of_le (z2 k hk).1 g4.size,(z2 k hk).2⟩⟩),RowAt.later (hXb _ g1) (S:=fun _=>False) (.of_below g4) (RowAt.lt (hXb _ g1)) id⟩
end
def FinPost (B:Nat) (w:World) (xb:Nat) (M:Nat→Prop) (l:List UInt8) (q:Ending) (w':World):Prop:=
  But w.heap.size (fun k=>M k∨k=xb) w w' ∧ RdrAt w' xb (some ⟨xb,0,none⟩) none∧match parseE l with
  | .error e=>q = .returned (.tuple #[zeroShard,.int .i64 (e.1:Int),.int .i64 (e.2:Int)])
  | .ok s=>∃ vN vS vC,q = .returned (.tuple #[.agg (shardL s.k s.n s.i s.c vN vS vC).toArray,.int .i64 0,.int .i64 0]) ∧
      w'.ownsRow B 9 1 vN s.names.length (strsV s.names)∧w'.ownsRow B 3 1 vS s.sizes.length (natV s.sizes)∧w'.ownsRow B 5 1 vC s.col.length (u8V s.col)
section
variable (B xb rb:Nat) (l:List UInt8) (M:Nat→Prop) (w:World) (hX:RdrAt w xb (some ⟨xb,0,none⟩) (some ⟨rb,0,none⟩)) (hxM:¬ M xb) (hx16:5≤xb) (hR:RSt B w rb l M) (hlen:l.length≤4611686018427387904) (hTab:Tab w) (hPow:Pow w) (hB16:5≤B) (hrB:B≤rb) (hM16:∀ k,M k→5≤k) (hMl:∀ k,M k→k < w.heap.size) (a:Addr) (hE:Early w a) (hT:ErrT w)
set_option maxHeartbeats 2000000 in
set_option maxRecDepth 100000 in
include hX hxM hx16 hR hlen hTab hPow hB16 hrB hM16 hMl hE hT in
theorem finish_any:Calls Tryz.prog 23 #[.pointer (some ⟨xb,0,none⟩)] w fun q w'=>FinPost B w xb M l q w':=by
  have hb0:=(Below.refl w.heap.size w).alloc (Nat.le_refl _) (.cells zero7.toArray 36)
  have hx0:RowAt (w.alloc (.cells zero7.toArray 36)) w.heap.size zero7 36:=RowAt.made w _ _
  have hxl:=RowAt.lt hX
  have hsz2:1 < w.heap.size:=cell_lt hT
  have h16:5≤w.heap.size:=by
    cases hR with
    | live vC vT h hm=>have:=h.lt.1;omega
    | dead h hm=>have:=hM16 _ hm;have:=hMl _ hm;omega
  have hX0:RdrAt (w.alloc (.cells zero7.toArray 36)) xb (some ⟨xb,0,none⟩) (some ⟨rb,0,none⟩):=RowAt.later hX (S:=fun _=>False) (.of_below hb0) hxl id
  have KE:=end_any B rb l M _ (hR.below hb0) hlen (hTab.below hb0 (by omega)) (hPow.belows hb0 h16) hB16 hrB a (hE.belows hb0)
  have KC:=closed_open xb rb _ hX0
  have hT0:ErrT (w.alloc (.cells zero7.toArray 36)):=hT.below hb0 hsz2
  have hnb:¬ M w.heap.size:=fun h=>by have:=hMl _ h;omega
  unfold zero7 shardL at hb0 hx0 KE KC hX0 hT0
  unfold EndPost at KE
  unfold FinPost
  clear hR hTab hPow hX hT hE
  cases hpe:parseE l with
  | error e=>
    rw [hpe] at KE
    simp only at KE ⊢
    go_enter Tryz.func23,Tryz.ntmps23
    go_upto_region 1 with (fail)
    generalize hw0:w.alloc _=w0 at hb0 hx0 KE KC hX0 hT0 ⊢
    clear hw0
    have hsz0:w.heap.size < w0.heap.size:=hx0.lt
    have c1:=RowAt.cell hX0 (i:=1) rfl
    go_upto_region 4 with (first | (go_at_call 38;(with_reducible refine KC.mono ?_);rintro q w1 ⟨rfl,hw1⟩;obtain rfl:=hw1.symm) | (go_at_call 41;(with_reducible refine KE.mono ?_);rintro q w2 ⟨g1,v,d,hd,rfl,g2⟩;unfold zeroShard shardL;obtain ⟨ty,x,rfl⟩:=g2.iface))
    have hb3:=(Below.refl w2.heap.size w2).alloc (Nat.le_refl _) (.cells ([.int .i64 0,.int .i64 0,.int .i64 0,.int .i64 0,.slice none 0 0,.slice none 0 0,.slice none 0 0]:List Value).toArray 36)
    have hs3:RowAt (w2.alloc (.cells ([.int .i64 0,.int .i64 0,.int .i64 0,.int .i64 0,.slice none 0 0,.slice none 0 0,.slice none 0 0]:List Value).toArray 36)) w2.heap.size [.int .i64 0,.int .i64 0,.int .i64 0,.int .i64 0,.slice none 0 0,.slice none 0 0,.slice none 0 0] 36:=RowAt.made w2 _ _
    generalize hw3:w2.alloc _=w3 at hb3 hs3 ⊢
    clear hw3
    have hx2:=hx0.later g1 hsz0 hnb
    have hx3:=hx2.later (S:=fun _=>False) (.of_below hb3) hx2.lt id
    have hX2:RdrAt w2 xb _ _:=RowAt.later hX0 g1 (RowAt.lt hX0) hxM
    have hX3:RdrAt w3 xb _ _:=RowAt.later hX2 (S:=fun _=>False) (.of_below hb3) (RowAt.lt hX2) id
    have hT2:ErrT w2:=(g1.cell (p:=⟨1,0,none⟩) (by show 1 < _;omega) (fun x=>by have:=hM16 1 x;omega)).trans hT0
    have hT3:ErrT w3:=hT2.below hb3 (by have:=g1.size;omega)
    have hC3:=g2.under hb3
    have hB3:But w.heap.size M w w3:=chain_wrap ((But.of_below hb0).step g1 (fun _ _ x=>x)) hb3
    have d1:=RowAt.cell hX3 (i:=1) rfl
    have f1:=RowAt.frozen hX3 1
    go_upto_region 5 with (fail)
    have hX4:RdrAt (w3.setCell ⟨xb,1,none⟩ (.pointer none)) xb (some ⟨xb,0,none⟩) none:=RowAt.set hX3 1 (.pointer none)
    have hB4:But w3.heap.size (· = xb) w3 (w3.setCell ⟨xb,1,none⟩ (.pointer none)):=(But.refl w3.heap.size (· = xb) w3).setCell (p:=⟨xb,1,none⟩) (.inr rfl) (.pointer none)
    clear d1 f1 c1
    generalize w3.setCell ⟨xb,1,none⟩ (.pointer none)=w4 at hX4 hB4 ⊢
    have hx4:=hx3.later hB4 hx3.lt (by omega)
    have hs4:=hs3.later hB4 hs3.lt (by have:=g1.size;omega)
    have hT4:ErrT w4:=(hB4.cell (p:=⟨1,0,none⟩) (by have:=hx3.lt;show 1 < _;omega) (by show ¬ 1=xb;omega)).trans hT3
    have KA:=answer_chain d hd _ e.1 e.2 w4 (hC3.other hX3 (by decide) (by decide) hB4) hT4
    go_upto_region 6 with (first | (go_at_call 28;(with_reducible refine KA.mono ?_);rintro q w5 ⟨rfl,g5⟩))
    have hx5:=hx4.later (S:=fun _=>False) (.of_below g5) hx4.lt id
    have hs5:=hs4.later (S:=fun _=>False) (.of_below g5) hs4.lt id
    have hX5:RdrAt w5 xb _ _:=RowAt.later hX4 (S:=fun _=>False) (.of_below g5) (RowAt.lt hX4) id
    have hB5:But w.heap.size (fun k=>M k∨k=xb) w w5:=chain_wrap ((hB3.mono (Nat.le_refl _) (fun _ x=>.inl x)).step hB4 (fun _ _ x=>.inr x)) g5
    have c0:=hx5.cell (i:=0) rfl
    have c1:=hx5.cell (i:=1) rfl
    have c2:=hx5.cell (i:=2) rfl
    have c3:=hx5.cell (i:=3) rfl
    have c4:=hx5.cell (i:=4) rfl
    have c5:=hx5.cell (i:=5) rfl
    have c6:=hx5.cell (i:=6) rfl
    have f0:=hx5.frozen
    have d0:=hs5.cell (i:=0) rfl
    have d1:=hs5.cell (i:=1) rfl
    have d2:=hs5.cell (i:=2) rfl
    have d3:=hs5.cell (i:=3) rfl
    have d4:=hs5.cell (i:=4) rfl
    have d5:=hs5.cell (i:=5) rfl
    have d6:=hs5.cell (i:=6) rfl
    go_wp2
    obtain ⟨hF,hG⟩:=set7 (b0:=.int .i64 0) (b1:=.int .i64 0) (b2:=.int .i64 0) (b3:=.int .i64 0) (b4:=.slice none 0 0) (b5:=.slice none 0 0) (b6:=.slice none 0 0) hx5
    have hX6:RdrAt _ xb (some ⟨xb,0,none⟩) none:=RowAt.later hX5 hG (RowAt.lt hX5) (by omega)
    refine bodyPost_ret (results_cell_2 (p:=2) (u:=3) (t:=4) rfl _ _ w.heap.size 36 _ (0,0) _ (by rfl) hF Tryz.underlying36 rfl (by kernel_rfl)) rfl ?_
    exact ⟨hB5.step hG (fun k hk e=>by omega),hX6,rfl⟩
  | ok sh=>
    rw [hpe] at KE
    simp only at KE ⊢
    go_enter Tryz.func23,Tryz.ntmps23
    go_upto_region 1 with (fail)
    generalize hw0:w.alloc _=w0 at hb0 hx0 KE KC hX0 hT0 ⊢
    clear hw0
    have hsz0:w.heap.size < w0.heap.size:=hx0.lt
    have c1:=RowAt.cell hX0 (i:=1) rfl
    go_upto_region 4 with (first | (go_at_call 38;(with_reducible refine KC.mono ?_);rintro q w1 ⟨rfl,hw1⟩;obtain rfl:=hw1.symm) | (go_at_call 41;(with_reducible refine KE.mono ?_);rintro q w2 ⟨g1,vN,vS,vC,rfl,n1,n2,n3⟩;unfold shardL;obtain ⟨bn,cn,rfl⟩:=owns_slice n1;obtain ⟨bz,cz,rfl⟩:=owns_slice n2;obtain ⟨bc,cc,rfl⟩:=owns_slice n3))
    have hb3:=(Below.refl w2.heap.size w2).alloc (Nat.le_refl _) (.cells ([.int .i64 (sh.k:Int),.int .i64 (sh.n:Int),.int .i64 (sh.i:Int),.int .i64 (sh.c:Int),.slice bn sh.names.length cn,.slice bz sh.sizes.length cz,.slice bc sh.col.length cc]:List Value).toArray 36)
    have hs3:RowAt (w2.alloc (.cells ([.int .i64 (sh.k:Int),.int .i64 (sh.n:Int),.int .i64 (sh.i:Int),.int .i64 (sh.c:Int),.slice bn sh.names.length cn,.slice bz sh.sizes.length cz,.slice bc sh.col.length cc]:List Value).toArray 36)) w2.heap.size [.int .i64 (sh.k:Int),.int .i64 (sh.n:Int),.int .i64 (sh.i:Int),.int .i64 (sh.c:Int),.slice bn sh.names.length cn,.slice bz sh.sizes.length cz,.slice bc sh.col.length cc] 36:=RowAt.made w2 _ _
    generalize hw3:w2.alloc _=w3 at hb3 hs3 ⊢
    clear hw3
    have hx2:=hx0.later g1 hsz0 hnb
    have hx3:=hx2.later (S:=fun _=>False) (.of_below hb3) hx2.lt id
    have hX2:RdrAt w2 xb _ _:=RowAt.later hX0 g1 (RowAt.lt hX0) hxM
    have hX3:RdrAt w3 xb _ _:=RowAt.later hX2 (S:=fun _=>False) (.of_below hb3) (RowAt.lt hX2) id
    have hT2:ErrT w2:=(g1.cell (p:=⟨1,0,none⟩) (by show 1 < _;omega) (fun x=>by have:=hM16 1 x;omega)).trans hT0
    have hT3:ErrT w3:=hT2.below hb3 (by have:=g1.size;omega)
    have o1:=fun {e n:Nat} {v:Value} {xs:List Value} (h:w2.ownsRow B e 1 v n xs)=>owns_later (w':=w3) h (fun g hg=>hb3.block g (h.lt g hg).2)
    have hB3:But w.heap.size M w w3:=chain_wrap ((But.of_below hb0).step g1 (fun _ _ x=>x)) hb3
    have d1:=RowAt.cell hX3 (i:=1) rfl
    have f1:=RowAt.frozen hX3 1
    go_upto_region 5 with (fail)
    have hX4:RdrAt (w3.setCell ⟨xb,1,none⟩ (.pointer none)) xb (some ⟨xb,0,none⟩) none:=RowAt.set hX3 1 (.pointer none)
    have hB4:But w3.heap.size (· = xb) w3 (w3.setCell ⟨xb,1,none⟩ (.pointer none)):=(But.refl w3.heap.size (· = xb) w3).setCell (p:=⟨xb,1,none⟩) (.inr rfl) (.pointer none)
    clear d1 f1 c1
    generalize w3.setCell ⟨xb,1,none⟩ (.pointer none)=w4 at hX4 hB4 ⊢
    have hx4:=hx3.later hB4 hx3.lt (by omega)
    have hs4:=hs3.later hB4 hs3.lt (by have:=g1.size;omega)
    have hT4:ErrT w4:=(hB4.cell (p:=⟨1,0,none⟩) (by have:=hx3.lt;show 1 < _;omega) (by show ¬ 1=xb;omega)).trans hT3
    have KA:=answer_nil w4
    go_upto_region 6 with (first | (go_at_call 28;(with_reducible refine KA.mono ?_);rintro q w5 ⟨rfl,g5⟩))
    have hx5:=hx4.later (S:=fun _=>False) (.of_below g5) hx4.lt id
    have hs5:=hs4.later (S:=fun _=>False) (.of_below g5) hs4.lt id
    have hX5:RdrAt w5 xb _ _:=RowAt.later hX4 (S:=fun _=>False) (.of_below g5) (RowAt.lt hX4) id
    have hB5:But w.heap.size (fun k=>M k∨k=xb) w w5:=chain_wrap ((hB3.mono (Nat.le_refl _) (fun _ x=>.inl x)).step hB4 (fun _ _ x=>.inr x)) g5
    have c0:=hx5.cell (i:=0) rfl
    have c1:=hx5.cell (i:=1) rfl
    have c2:=hx5.cell (i:=2) rfl
    have c3:=hx5.cell (i:=3) rfl
    have c4:=hx5.cell (i:=4) rfl
    have c5:=hx5.cell (i:=5) rfl
    have c6:=hx5.cell (i:=6) rfl
    have f0:=hx5.frozen
    have d0:=hs5.cell (i:=0) rfl
    have d1:=hs5.cell (i:=1) rfl
    have d2:=hs5.cell (i:=2) rfl
    have d3:=hs5.cell (i:=3) rfl
    have d4:=hs5.cell (i:=4) rfl
    have d5:=hs5.cell (i:=5) rfl
    have d6:=hs5.cell (i:=6) rfl
    go_wp2
    obtain ⟨hF,hG⟩:=set7 (b0:=.int .i64 (sh.k:Int)) (b1:=.int .i64 (sh.n:Int)) (b2:=.int .i64 (sh.i:Int)) (b3:=.int .i64 (sh.c:Int)) (b4:=.slice bn sh.names.length cn) (b5:=.slice bz sh.sizes.length cz) (b6:=.slice bc sh.col.length cc) hx5
    have hX6:RdrAt _ xb (some ⟨xb,0,none⟩) none:=RowAt.later hX5 hG (RowAt.lt hX5) (by omega)
    refine bodyPost_ret (results_cell_2 (p:=2) (u:=3) (t:=4) rfl _ _ w.heap.size 36 _ (0,0) _ (by rfl) hF Tryz.underlying36 rfl (by kernel_rfl)) rfl ?_
    have o2:∀ {e n:Nat} {v:Value} {xs:List Value},w2.ownsRow B e 1 v n xs→e≠93→e≠36→World.ownsRow _ B e 1 v n xs:=fun h h1 h2=>owns_other hx5 hG (by
      have z1:=owns_other hX3 hB4 (o1 h) h1
      exact owns_later z1 (fun g hg=>g5.block g (z1.lt g hg).2)) h2
    exact ⟨hB5.step hG (fun k hk e=>by omega),hX6,_,_,_,rfl,o2 n1 (by decide) (by decide),o2 n2 (by decide) (by decide),o2 n3 (by decide) (by decide)⟩
end
section
variable (p:List UInt8) (vp:Value) (w:World) (hP:Pt w (fun _=>False) vp p) (hlen:p.length≤4611686018427387904) (hTab:Tab w) (hPow:Pow w) (h16:5≤w.heap.size) (a:Addr) (hE:Early w a) (hT:ErrT w)
set_option maxHeartbeats 2000000 in
set_option maxRecDepth 100000 in
include hP hlen hTab hPow h16 hE hT in
theorem parseP_any:Calls Tryz.prog 11 #[vp] w fun q w'=>ParsePost p w q w':=by
  have hb0:=(Below.refl w.heap.size w).alloc (Nat.le_refl _) (.cells zero7.toArray 36)
  have hx0:RowAt (w.alloc (.cells zero7.toArray 36)) w.heap.size zero7 36:=RowAt.made w _ _
  unfold zero7 shardL at hb0 hx0
  unfold ParsePost
  cases hpe:parseE p with
  | error e=>
    simp only
    go_enter Tryz.func11,Tryz.ntmps11
    go_upto_region 1 with (fail)
    generalize hw0:w.alloc _=w0 at hb0 hx0 ⊢
    clear hw0
    have hT0:=hTab.below hb0 (by omega)
    have hP0:=hPow.belows hb0 h16
    have hE0:=hE.belows hb0
    have hR0:ErrT w0:=hT.below hb0 (by omega)
    have hPt0:Pt w0 (fun _=>False) vp p:=hP.later (S:=fun _=>False) (.of_below hb0) (fun _ x=>x) (fun _ _ x=>x)
    have KN:=newReader_any w0
    have hs0:w.heap.size < w0.heap.size:=hx0.lt
    go_upto_region 2 with (first | (go_at_call 21;(with_reducible refine KN.mono ?_);rintro q w1 ⟨xb,rb,rfl,n1,n2,n3,n4,n5⟩))
    have hx1:=hx0.later (S:=fun _=>False) (.of_below n5) hx0.lt id
    have hn5:=n5.size
    have hPt1:Pt w1 (Mine rb (.slice none 0 0) (.slice none 0 0)) vp p:=hPt0.later (S:=fun _=>False) (.of_below n5) (fun _ x=>x) (fun k hk x=>by
      rcases x with h | h | h
      · omega
      · cases h
      · cases h)
    have hMr:∀ k,Mine rb (.slice none 0 0) (.slice none 0 0) k→k=rb:=fun k x=>by
      rcases x with h | h | h
      · exact h
      · cases h
      · cases h
    have hxr:xb≠rb:=by
      obtain ⟨s,t,vN,vS,I,_⟩:=n2
      exact row_other n1 I.rd (by decide)
    have hlt1:=n2.lt
    have KF:=feed_any w0.heap.size xb rb [] p (Mine rb (.slice none 0 0) (.slice none 0 0)) vp w1 n1 (fun h=>hxr (hMr _ h)) (.live _ _ n2 (fun _ h=>h)) hPt1 (by simpa using hlen) (hT0.below n5 (by omega)) (hP0.belows n5 (by omega)) (by omega) n3 (fun k h=>by have:=hMr k h;omega) a (hE0.belows n5) (hR0.below n5 (by omega))
    rw [List.nil_append] at KF
    unfold FeedPost at KF
    go_upto_region 3 with (first | (go_at_call 22;(with_reducible refine KF.mono ?_);rintro q w2 ⟨rfl,g1,⟨M',g2,g3⟩,g4⟩))
    have hM16:∀ k,M' k→5≤k:=fun k h=>by
      rcases Nat.lt_or_ge k w1.heap.size with q | q
      · have:=hMr k ((g3 k h).2 q);omega
      · omega
    have hxl1:=RowAt.lt n1
    have hxM:¬ M' xb:=fun h=>hxr (hMr _ ((g3 xb h).2 hxl1))
    have hbM:¬ M' w.heap.size:=fun h=>by have:=hMr _ ((g3 _ h).2 (by omega));omega
    have hx2:=hx1.later g1 hx1.lt (fun h=>by have:=hMr _ h;omega)
    have hnM:∀ k,k < 5→¬ Mine rb (.slice none 0 0) (.slice none 0 0) k:=fun k hk h=>by have:=hMr k h;omega
    have KI:=finish_any w0.heap.size xb rb p M' w2 g4 hxM (by omega) g2 hlen ((hT0.below n5 (by omega)).but g1 (by omega) (hnM 2 (by omega))) ((hP0.belows n5 (by omega)).but g1 (fun k hk=>⟨by omega,hnM k hk⟩)) (by omega) n3 hM16 (fun k h=>(g3 k h).1) a ((hE0.belows n5).but g1 (by omega) (hnM 0 (by omega))) ((g1.cell (p:=⟨1,0,none⟩) (by show 1 < _;omega) (hnM 1 (by omega))).trans (hR0.below n5 (by omega)))
    unfold FinPost at KI
    rw [hpe] at KI
    simp only at KI
    have hB2:But w.heap.size (fun _=>False) w w2:=(((But.of_below (hb0.trans (n5.mono (by omega)))):But w.heap.size (fun _=>False) w w1)).step g1 (fun k hk h=>by have:=hMr k h;omega)
    have hxw:¬ w.heap.size=xb:=by omega
    clear KF KN hT0 hP0 hE0 hR0 hPt0 hPt1 n2
    go_wp2_with (first | (go_at_call 23;(with_reducible refine KI.mono ?_);rintro q w3 ⟨k1,k2,rfl⟩;unfold zeroShard shardL;have hx3:=hx2.later k1 hx2.lt (fun x=>x.elim hbM hxw);have c0:=hx3.cell (i:=0) rfl;have c1:=hx3.cell (i:=1) rfl;have c2:=hx3.cell (i:=2) rfl;have c3:=hx3.cell (i:=3) rfl;have c4:=hx3.cell (i:=4) rfl;have c5:=hx3.cell (i:=5) rfl;have c6:=hx3.cell (i:=6) rfl;have f0:=hx3.frozen))
    obtain ⟨hF,hG⟩:=set7 (b0:=.int .i64 0) (b1:=.int .i64 0) (b2:=.int .i64 0) (b3:=.int .i64 0) (b4:=.slice none 0 0) (b5:=.slice none 0 0) (b6:=.slice none 0 0) hx3
    have hB3:But w.heap.size (fun _=>False) w w3:=hB2.step k1 (fun k hk h=>by
      rcases h with h | h
      · have:=hMr k ((g3 k h).2 (by omega));omega
      · omega)
    have hBB:=(hB3.step hG (fun k hk e=>by omega)).below (fun _ _=>id)
    refine bodyPost_ret (results_cell_2 (p:=2) (u:=3) (t:=4) rfl _ _ w.heap.size 36 _ (0,0) _ (by rfl) hF Tryz.underlying36 rfl (by kernel_rfl)) rfl ?_
    exact ⟨hBB,rfl⟩
  | ok sh=>
    simp only
    go_enter Tryz.func11,Tryz.ntmps11
    go_upto_region 1 with (fail)
    generalize hw0:w.alloc _=w0 at hb0 hx0 ⊢
    clear hw0
    have hT0:=hTab.below hb0 (by omega)
    have hP0:=hPow.belows hb0 h16
    have hE0:=hE.belows hb0
    have hR0:ErrT w0:=hT.below hb0 (by omega)
    have hPt0:Pt w0 (fun _=>False) vp p:=hP.later (S:=fun _=>False) (.of_below hb0) (fun _ x=>x) (fun _ _ x=>x)
    have KN:=newReader_any w0
    have hs0:w.heap.size < w0.heap.size:=hx0.lt
    go_upto_region 2 with (first | (go_at_call 21;(with_reducible refine KN.mono ?_);rintro q w1 ⟨xb,rb,rfl,n1,n2,n3,n4,n5⟩))
    have hx1:=hx0.later (S:=fun _=>False) (.of_below n5) hx0.lt id
    have hn5:=n5.size
    have hPt1:Pt w1 (Mine rb (.slice none 0 0) (.slice none 0 0)) vp p:=hPt0.later (S:=fun _=>False) (.of_below n5) (fun _ x=>x) (fun k hk x=>by
      rcases x with h | h | h
      · omega
      · cases h
      · cases h)
    have hMr:∀ k,Mine rb (.slice none 0 0) (.slice none 0 0) k→k=rb:=fun k x=>by
      rcases x with h | h | h
      · exact h
      · cases h
      · cases h
    have hxr:xb≠rb:=by
      obtain ⟨s,t,vN,vS,I,_⟩:=n2
      exact row_other n1 I.rd (by decide)
    have hlt1:=n2.lt
    have KF:=feed_any w0.heap.size xb rb [] p (Mine rb (.slice none 0 0) (.slice none 0 0)) vp w1 n1 (fun h=>hxr (hMr _ h)) (.live _ _ n2 (fun _ h=>h)) hPt1 (by simpa using hlen) (hT0.below n5 (by omega)) (hP0.belows n5 (by omega)) (by omega) n3 (fun k h=>by have:=hMr k h;omega) a (hE0.belows n5) (hR0.below n5 (by omega))
    rw [List.nil_append] at KF
    unfold FeedPost at KF
    go_upto_region 3 with (first | (go_at_call 22;(with_reducible refine KF.mono ?_);rintro q w2 ⟨rfl,g1,⟨M',g2,g3⟩,g4⟩))
    have hM16:∀ k,M' k→5≤k:=fun k h=>by
      rcases Nat.lt_or_ge k w1.heap.size with q | q
      · have:=hMr k ((g3 k h).2 q);omega
      · omega
    have hxl1:=RowAt.lt n1
    have hxM:¬ M' xb:=fun h=>hxr (hMr _ ((g3 xb h).2 hxl1))
    have hbM:¬ M' w.heap.size:=fun h=>by have:=hMr _ ((g3 _ h).2 (by omega));omega
    have hx2:=hx1.later g1 hx1.lt (fun h=>by have:=hMr _ h;omega)
    have hnM:∀ k,k < 5→¬ Mine rb (.slice none 0 0) (.slice none 0 0) k:=fun k hk h=>by have:=hMr k h;omega
    have KI:=finish_any w0.heap.size xb rb p M' w2 g4 hxM (by omega) g2 hlen ((hT0.below n5 (by omega)).but g1 (by omega) (hnM 2 (by omega))) ((hP0.belows n5 (by omega)).but g1 (fun k hk=>⟨by omega,hnM k hk⟩)) (by omega) n3 hM16 (fun k h=>(g3 k h).1) a ((hE0.belows n5).but g1 (by omega) (hnM 0 (by omega))) ((g1.cell (p:=⟨1,0,none⟩) (by show 1 < _;omega) (hnM 1 (by omega))).trans (hR0.below n5 (by omega)))
    unfold FinPost at KI
    rw [hpe] at KI
    simp only at KI
    have hB2:But w.heap.size (fun _=>False) w w2:=(((But.of_below (hb0.trans (n5.mono (by omega)))):But w.heap.size (fun _=>False) w w1)).step g1 (fun k hk h=>by have:=hMr k h;omega)
    have hxw:¬ w.heap.size=xb:=by omega
    clear KF KN hT0 hP0 hE0 hR0 hPt0 hPt1 n2
    go_wp2_with (first | (go_at_call 23;(with_reducible refine KI.mono ?_);rintro q w3 ⟨k1,k2,vN,vS,vC,rfl,o1,o2,o3⟩;unfold shardL;obtain ⟨bn,cn,rfl⟩:=owns_slice o1;obtain ⟨bz,cz,rfl⟩:=owns_slice o2;obtain ⟨bc,cc,rfl⟩:=owns_slice o3;have hx3:=hx2.later k1 hx2.lt (fun x=>x.elim hbM hxw);have c0:=hx3.cell (i:=0) rfl;have c1:=hx3.cell (i:=1) rfl;have c2:=hx3.cell (i:=2) rfl;have c3:=hx3.cell (i:=3) rfl;have c4:=hx3.cell (i:=4) rfl;have c5:=hx3.cell (i:=5) rfl;have c6:=hx3.cell (i:=6) rfl;have f0:=hx3.frozen))
    obtain ⟨hF,hG⟩:=set7 (b0:=.int .i64 (sh.k:Int)) (b1:=.int .i64 (sh.n:Int)) (b2:=.int .i64 (sh.i:Int)) (b3:=.int .i64 (sh.c:Int)) (b4:=.slice bn sh.names.length cn) (b5:=.slice bz sh.sizes.length cz) (b6:=.slice bc sh.col.length cc) hx3
    have hB3:But w.heap.size (fun _=>False) w w3:=hB2.step k1 (fun k hk h=>by
      rcases h with h | h
      · have:=hMr k ((g3 k h).2 (by omega));omega
      · omega)
    have hBB:=(hB3.step hG (fun k hk e=>by omega)).below (fun _ _=>id)
    refine bodyPost_ret (results_cell_2 (p:=2) (u:=3) (t:=4) rfl _ _ w.heap.size 36 _ (0,0) _ (by rfl) hF Tryz.underlying36 rfl (by kernel_rfl)) rfl ?_
    exact ⟨hBB,_,_,_,rfl,owns_base (owns_other hx3 hG o1 (by decide)) (by omega),owns_base (owns_other hx3 hG o2 (by decide)) (by omega),owns_base (owns_other hx3 hG o3 (by decide)) (by omega)⟩
end
structure Both (w:World) (s:Shd) (vN vS vC:Value):Prop where
  n:Lies w vN (strsV s.names)
  z:Lies w vS (natV s.sizes)
  c:Lies w vC (u8V s.col)
end Go.Proofs.YtkpcmfgeanlcnabGreatDoor
