/-
  The statement Canon: the names and sizes, one by one.
-/
import Derived.Test.YtkpcmfgeanlcnabGreatDoorCnE
import Derived.Deep.RegionHeld3
import Derived.Test.YtkpcmfgeanlcnabGreatDoorPaA
import Derived.Test.YtkpcmfgeanlcnabGreatDoorRows
import Derived.Test.YtkpcmfgeanlcnabGreatDoorErD
import Derived.Test.YtkpcmfgeanlcnabGreatDoorPrR
import Derived.LaidMore
import Derived.LaidSub
import Derived.LaidHandle
import Derived.Lib.LaidTab
import Derived.Stop.LaidErr
namespace Go.Proofs.YtkpcmfgeanlcnabGreatDoor
open Go.RowKit Go.Deep Go.Lf Go.Conc Go.Hp
section
variable {X:Nat→Prop} {Y:Nat→Option Obj} {D:Nat→World→Array Event→Prop} {Stop:Goroutine→World→Prop} {w:World} {x5 x6:Value} {pb i sb K N C m:Nat}
def LpR (w:World) (m:Nat) (vj:Value) (wr:World):Prop:=∃ j:Nat,j≤m∧vj = .int .i64 ((j:Nat):Int)∧Below w.heap.size w wr
set_option maxHeartbeats 8000000 in
set_option maxRecDepth 100000 in
theorem cn_loop (hDk:Dok X D) {T:Array Value} {f:Nat→Ent} {bo bN bS:Option Addr} {cap cN cS:Nat} {vC vi y:Value} (hm:m≤5) (hT:TC4 x5 x6 pb (.slice bo m cap) i vi sb y T)
    (hr:RowAt w sb [.int .i64 (K:Int),.int .i64 (N:Int),.int .i64 (i:Int),.int .i64 (C:Int),.slice bN m cN,.slice bS m cS,vC] 36) (hBC:BC w bo m f)
    (hnm:∀ j,j < m→∃ b o,bN=some ⟨b,o,none⟩∧w.cell? ⟨b,o+j,none⟩=some (.string ⟨(f j).k.toArray⟩)) (hsz:∀ j,j < m→∃ b o,bS=some ⟨b,o,none⟩∧w.cell? ⟨b,o+j,none⟩=some (.int .i64 ((f j).l:Int)))
    (hnext:∀ (T':Array Value) (w':World),TC4 x5 x6 pb (.slice bo m cap) i vi sb y T' → Bel w.heap.size w w' → ReaR Tryz.prog X Y D Stop none [] 3 [] [.code cn17] T' w') :
    ReaR Tryz.prog X Y D Stop none [] 3 [] [.code cn12] T w:=by
  obtain ⟨q,rfl⟩:=hT
  unfold Tc
  rw [cn12_eq]
  refine reaR_split hDk (reaR_go goodP hDk (by kernel_rfl) sfcn fun R hR τ d => ?_)
  have bl:Bel w.heap.size w { w with tape:=τ,drawn:=d }:=(Bel.refl _ w).tp τ d
  generalize ({ w with tape:=τ,drawn:=d }:World)=wA at bl ⊢
  have hs:=bel_sub bl
  have hrA:=hs.row hr
  simp only [cn12,cn10,cn9,cn4,cn3,cnBody,gFst,gSnd,Tryz.f3,Option.getD_some]
  go_wp2
  go_loopw [26] (fun vj wr=>LpR wA m vj wr) (fun vj _=>m - (intOf vj).toNat)
  case atStart=>exact ⟨0,by omega,rfl,Below.refl _ _⟩
  case round=>
    obtain ⟨j,hj,rfl,hb⟩:=hrel
    by_cases hlt:j < m
    · have hlt':(j:Int) < (m:Int):=by omega
      obtain ⟨b1,o1,rfl,n1⟩:=hnm j hlt
      obtain ⟨b2,o2,rfl,n2⟩:=hsz j hlt
      have hsr:=hs.trans (bel_sub (Bel.of hb))
      obtain ⟨bb,oo,rfl,hbb,hcell⟩:=hBC.here (by omega)
      obtain ⟨n3,n4⟩:=hcell j hlt
      have hrr:=hsr.row hr
      replace n1:=hsr.cell n1
      replace n2:=hsr.cell n2
      replace n3:=hsr.cell n3
      replace n4:=hsr.cell n4
      have c4:=hrr.cell (i:=4) rfl
      have c5:=hrr.cell (i:=5) rfl
      simp only [strV,Ent.d] at n3 n4
      clear hcell hrr
      go_wp2
      go_region_held3 (fun w'=>w'.cell? ⟨sb,4,none⟩=some (.slice (some ⟨b1,o1,none⟩) m cN)∧w'.cell? ⟨sb,5,none⟩=some (.slice (some ⟨b2,o2,none⟩) m cS)∧w'.cell? ⟨b1,o1+j,none⟩=some (.string ⟨(f j).k.toArray⟩)∧w'.cell? ⟨b2,o2+j,none⟩=some (.int .i64 ((f j).l:Int))∧w'.cell? ⟨bb,oo+j*2,none⟩=some (.string ⟨(f j).k.toArray⟩)∧w'.cell? ⟨bb,oo+j*2+1,none⟩=some (.slice (f j).a (f j).l (f j).c)) (go_keep) (fail)
      go_wp2
      go_roundw
      case rel=>exact ⟨j+1,by omega,by go_num,hb.drew⟩
      case measure=>simp [intOf];omega
    · obtain rfl:j=m:=by omega
      have hnl:¬ ((j:Int) < (j:Int)):=by omega
      go_wp2
      exact hnext _ _ ⟨_,tcn_mk rfl⟩ (bl.trans (Bel.of hb) bl.size')
end
end Go.Proofs.YtkpcmfgeanlcnabGreatDoor
namespace Go.Proofs.YtkpcmfgeanlcnabGreatDoor
open Go.RowKit Go.Deep
theorem bytes_made (s:ByteArray) (w:World):∃ cap w',(convert 9 33 (.string s)).run Tryz.prog w = .ok (.slice (some ⟨w.heap.size,0,none⟩) s.data.toList.length cap) w' ∧ Below w.heap.size w w' ∧ w'.heap.size=w.heap.size+1∧s.data.toList.length≤cap∧Byt w' w.heap.size 0 s.data.toList:=by
  have es:s.data.toList.length=s.size:=Array.length_toList
  rw [es]
  refine ⟨_,_,run_bytes_of_string w _ _ 5 s Tryz.underlying9 Tryz.underlying33 Tryz.underlying5,((Below.refl _ _).drew).alloc (Nat.le_refl _) _,?_,grownCap_ge _ _ _ _,?_⟩
  · simp
  · intro i hi
    rw [es] at hi
    have h:=World.cell?_alloc_mark w.drew (bytesRow s (grownCap w s.size 0 5)) 5 ((bytesRow s (grownCap w s.size 0 5)).size,(bytesRow s (grownCap w s.size 0 5)).size+1) i
    rw [Nat.zero_add]
    refine Eq.trans h ?_
    unfold bytesRow
    rw [Array.getElem?_append_left (by simpa using hi)]
    simp [bAt,hi]
end Go.Proofs.YtkpcmfgeanlcnabGreatDoor
namespace Go.Proofs.YtkpcmfgeanlcnabGreatDoor
open Go.RowKit Go.Deep Go.Lf Go.Conc Go.Hp
theorem cn25_eq:cn25 = .seq (gFst cn25) cn26:=by kernel_rfl
def TC7 (x6:Value) (T:Array Value):Prop:=∃ f:Nat→Value,T=Tc f (f 4) (f 5) (x6) (f 15) (f 16) (f 17) (f 18) (f 19) (f 20) (f 21) (f 22) (f 23) (f 24) (f 25) (f 34) (f 35) (f 37) (f 38)
section
variable {X:Nat→Prop} {Y:Nat→Option Obj} {D:Nat→World→Array Event→Prop} {Stop:Goroutine→World→Prop} {w:World}
set_option maxHeartbeats 8000000 in
set_option maxRecDepth 100000 in
theorem cn_any (hDk:Dok X D) {T:Array Value} {a:Addr} {z:List UInt8} (hz:z.length≤4611686018427387904) (hT:TC7 (.string ⟨z.toArray⟩) T) (hG:Gl a w)
    (hbad:∀ (T':Array Value) (sb:Nat) (e:Nat×Nat) (w':World),parseE z = .error e→TC5 (.string ⟨z.toArray⟩) sb (e.1:Int) T' → Bel w.heap.size w w' → ReaR Tryz.prog X Y D Stop none [] 3 [] [.code cn26] T' w')
    (hok:∀ (T':Array Value) (sb:Nat) (s:Shd) (vN vS vC:Value) (w':World),parseE z = .ok s→TC5 (.string ⟨z.toArray⟩) sb 0 T' → RowAt w' sb [.int .i64 (s.k:Int),.int .i64 (s.n:Int),.int .i64 (s.i:Int),.int .i64 (s.c:Int),vN,vS,vC] 36→Bel w.heap.size w w' →
      w'.ownsRow w.heap.size 9 1 vN s.names.length (strsV s.names)→w'.ownsRow w.heap.size 3 1 vS s.sizes.length (natV s.sizes)→w'.ownsRow w.heap.size 5 1 vC s.col.length (u8V s.col)→ReaR Tryz.prog X Y D Stop none [] 3 [] [.code cn26] T' w') :
    ReaR Tryz.prog X Y D Stop none [] 3 [] [.code cn25] T w:=by
  obtain ⟨q,rfl⟩:=hT
  unfold Tc
  rw [cn25_eq]
  refine reaR_split hDk (reaR_go goodP hDk (by kernel_rfl) sfcn fun R hR τ d => ?_)
  have bl:Bel w.heap.size w { w with tape:=τ,drawn:=d }:=(Bel.refl _ w).tp τ d
  generalize ({ w with tape:=τ,drawn:=d }:World)=wA at bl ⊢
  obtain ⟨cap,w1,hr1,hb1,_,hcap,hby⟩:=bytes_made ⟨z.toArray⟩ wA
  simp only at hr1 hcap hby
  have bl1:=bl.trans (Bel.of hb1) bl.size'
  have hG1:=hG.sub (bel_sub bl1)
  simp only [cn25,cn17,cn12,cn10,cn9,cn4,cn3,cnBody,gFst,gSnd,Tryz.f3,Option.getD_some]
  generalize wA.heap.size=gz at *
  cases hp:parseE z with
  | error e=>
    have kq:=parse_bad (ad:=⟨gz,0,none⟩) hG1 (fun j hj=>by rw [add_off];exact hby j hj) hcap hz hp
    unfold zeroShard shardL at kq
    obtain ⟨e1,e2⟩:=e
    simp only at kq
    go_wp2_with (first | (go_at_call 11;(with_reducible refine kq.mono ?_);rintro r w2 ⟨hb2,rfl⟩))
    exact hbad _ _ (e1,e2) _ hp ⟨_,tcn_mk rfl⟩ ((bl1.trans (Bel.of hb2) bl1.size').trans (Bel.of ((Below.refl w2.heap.size w2).alloc (Nat.le_refl _) _)) (Nat.le_trans bl1.size' hb2.size))
  | ok s=>
    have kq:=parse_good hG1 hby hcap hz hp
    go_wp2_with (first | (go_at_call 11;(with_reducible refine kq.mono ?_);rintro r w2 ⟨hb2,vN,vS,vC,rfl,o1,o2,o3⟩;obtain ⟨xN,yN,rfl⟩:=owns_form o1;obtain ⟨xS,yS,rfl⟩:=owns_form o2;obtain ⟨xC,yC,rfl⟩:=owns_form o3))
    exact hok _ w2.heap.size s _ _ _ _ hp ⟨_,tcn_mk rfl⟩ (RowAt.made w2 _ _) ((bl1.trans (Bel.of hb2) bl1.size').trans (Bel.of ((Below.refl w2.heap.size w2).alloc (Nat.le_refl _) _)) (Nat.le_trans bl1.size' hb2.size)) (owns_down (o1.alloc _) bl1.size') (owns_down (o2.alloc _) bl1.size') (owns_down (o3.alloc _) bl1.size')
end
theorem cn17_eq:cn17 = .seq (gFst cn17) (.seq (gFst (gSnd cn17)) (.seq (gFst (gSnd (gSnd cn17))) (.seq (gFst (gSnd (gSnd (gSnd cn17)))) (.seq (gFst (gSnd (gSnd (gSnd (gSnd cn17))))) (.seq (gFst (gSnd (gSnd (gSnd (gSnd (gSnd cn17)))))) (.seq (gFst (gSnd (gSnd (gSnd (gSnd (gSnd (gSnd cn17))))))) cn25)))))):=by kernel_rfl
section
variable {X:Nat→Prop} {Y:Nat→Option Obj} {D:Nat→World→Array Event→Prop} {Stop:Goroutine→World→Prop} {w:World} {x6 vb y:Value} {pb i sb:Nat}
theorem take_at {l:List UInt8} {m j:Nat} (h:j < m):bAt (l.take m) j=bAt l j:=by
  simp only [bAt,List.getD_eq_getElem?_getD]
  rw [List.getElem?_take_of_lt h]
set_option maxHeartbeats 8000000 in
set_option maxRecDepth 100000 in
theorem cn_cut (hDk:Dok X D) {T:Array Value} {z5:Int} {a:Addr} {g cg:Nat} {l:List UInt8} (hT:TC4 (.int .i64 z5) x6 pb vb i (.slice (some ⟨g,0,none⟩) l.length cg) sb y T) (hz:In64 z5) (hG:Gl a w) (hb:Byt w g 0 l) (hl0:0 < l.length) (hl:l.length≤10000000000) (hcap:l.length≤cg)
    (hp1:∀ m,m < l.length→parseE (l.take m) = .error (4,m)) (hp2:parseE (l++[0]) = .error (9,l.length))
    (hnext:∀ (T':Array Value) (w':World),TC7 x6 T' → Bel w.heap.size w w' → ReaR Tryz.prog X Y D Stop none [] 3 [] [.code cn25] T' w') :
    ReaR Tryz.prog X Y D Stop none [] 3 [] [.code cn17] T w:=by
  obtain ⟨q,rfl⟩:=hT
  unfold Tc
  rw [cn17_eq]
  have hml:pickN z5 l.length < l.length:=pickN_lt z5 hl0
  refine reaR_split hDk (reaR_go goodP hDk (by kernel_rfl) sfcn fun R hR τ d => ?_)
  have bl:Bel w.heap.size w { w with tape:=τ,drawn:=d }:=(Bel.refl _ w).tp τ d
  generalize ({ w with tape:=τ,drawn:=d }:World)=wA at bl ⊢
  have kp:=pick_any z5 l.length (l.length:Int) rfl hz.1 hz.2 hl0 (by omega) wA
  simp only [cn17,cn12,cn10,cn9,cn4,cn3,cnBody,gFst,gSnd,Tryz.f3,Option.getD_some]
  go_wp2_with (first | (go_at_call 10;(with_reducible refine kp.mono ?_);rintro r w1 ⟨rfl,hw1⟩;obtain rfl:=hw1.symm))
  clear kp
  generalize hmm:pickN z5 l.length=m at *
  have hp1':=hp1 m hml
  have hlen:(l.take m).length=m:=by rw [List.length_take];omega
  refine reaR_split hDk (reaR_go goodP hDk (by kernel_rfl) sfcn fun R hR τ d => ?_)
  replace bl:=bl.tp τ d
  generalize ({ wA with tape:=τ,drawn:=d }:World)=wB at bl ⊢
  have hbB:=(bel_sub bl).byt hb
  have kq:=parse_bad (ad:=⟨g,0,none⟩) (cap:=cg) (l:=l.take m) (hG.sub (bel_sub bl)) (fun j hj=>by rw [add_off,take_at (by omega)];exact hbB j (by omega)) (by omega) (by omega) hp1'
  rw [hlen] at kq
  unfold zeroShard shardL at kq
  simp only at kq
  have hmc:(m:Int)≤(cg:Int):=by omega
  simp only [cn17,cn12,cn10,cn9,cn4,cn3,cnBody,gFst,gSnd,Tryz.f3,Option.getD_some]
  go_wp2_with (first | (go_at_call 11;(with_reducible refine kq.mono ?_);rintro r w2 ⟨hb2,rfl⟩))
  clear kq hp1 hbB
  have bl2:=(bl.trans (Bel.of hb2) bl.size').trans (Bel.of ((Below.refl w2.heap.size w2).alloc (Nat.le_refl _) (.cells #[.int .i64 0,.int .i64 0,.int .i64 0,.int .i64 0,.slice none 0 0,.slice none 0 0,.slice none 0 0] 36))) (Nat.le_trans bl.size' hb2.size)
  clear hb2 bl
  generalize w2.heap.size=pz at bl2 ⊢
  generalize w2.alloc (.cells #[.int .i64 0,.int .i64 0,.int .i64 0,.int .i64 0,.slice none 0 0,.slice none 0 0,.slice none 0 0] 36)=w3 at bl2 ⊢
  refine reaR_split hDk (reaR_go goodP hDk (by kernel_rfl) sfcn fun R hR τ d => ?_)
  replace bl2:=bl2.tp τ d
  generalize ({ w3 with tape:=τ,drawn:=d }:World)=w3 at bl2 ⊢
  simp only [cn17,cn12,cn10,cn9,cn4,cn3,cnBody,gFst,gSnd,Tryz.f3,Option.getD_some]
  go_wp2
  refine reaR_split hDk (reaR_go goodP hDk (by kernel_rfl) sfcn fun R hR τ d => ?_)
  replace bl2:=bl2.tp τ d
  generalize ({ w3 with tape:=τ,drawn:=d }:World)=w3 at bl2 ⊢
  obtain ⟨i0,hi0,hz0,hz1,hz2⟩:=info_parts infoB8
  have hb3:=(bel_sub bl2).byt hb
  have hnil:OwnB w3.heap.size w3 (.slice none 0 0) []:=World.ownsRow_nil _ _ _ _
  simp only [cn17,cn12,cn10,cn9,cn4,cn3,cnBody,gFst,gSnd,Tryz.f3,Option.getD_some]
  go_wp2_with (at_builtin;go_loud (refine wpList_append_own _ rfl _ _ 33 rfl w3.heap.size 5 i0 (.int .u8 0) 1 1 Tryz.underlying33 hi0 hz0 hz1 hz2 rfl (by decide) _ _ _ rfl hnil ⟨g,0,none⟩ l.length cg (u8V l) rfl (by rw [u8V_length];omega) (fun j u hj=>by obtain ⟨h1,h2⟩:=u8V_at hj;subst h2;rw [add_off];exact hb3 j h1) (u8V_one _) (by unfold maxLen;simp;omega) (by simp;omega) (Nat.le_refl _) ?_;intro v4 w4 hown4 hgrow4 _))
  have hO4:OwnB w3.heap.size w4 v4 ([]++l):=OwnB.more hown4 rfl
  have hb4:=hnil.grown hgrow4 (Nat.le_refl _)
  rw [List.nil_append] at hO4
  have bl4:=bl2.trans (Bel.of hb4) bl2.size'
  have hs4:w3.heap.size≤w4.heap.size:=hb4.size
  have hBw:w.heap.size≤w3.heap.size:=bl2.size'
  clear hown4 hgrow4 hb4 hnil hb3
  generalize w3.heap.size=B at hO4 hs4 hBw
  refine reaR_split hDk (reaR_go goodP hDk (by kernel_rfl) sfcn fun R hR τ d => ?_)
  replace bl4:=bl4.tp τ d
  replace hs4:B≤({ w4 with tape:=τ,drawn:=d }:World).heap.size:=hs4
  replace hO4:OwnB B { w4 with tape:=τ,drawn:=d } v4 l:=owns_bel hO4 ((Bel.refl w4.heap.size w4).tp τ d) (Nat.le_refl _)
  generalize ({ w4 with tape:=τ,drawn:=d }:World)=w4 at bl4 hs4 hO4 ⊢
  simp only [cn17,cn12,cn10,cn9,cn4,cn3,cnBody,gFst,gSnd,Tryz.f3,Option.getD_some]
  go_wp2_with (at_builtin;go_loud (refine wpList_append_own _ rfl _ _ 33 rfl B 5 i0 (.int .u8 0) 1 1 Tryz.underlying33 hi0 hz0 hz1 hz2 rfl (by decide) _ _ _ rfl (hO4.alloc _) ⟨w4.heap.size,0,none⟩ 1 1 (u8V [0]) rfl rfl (cell_one_new _ _ _) (u8V_one _) (by unfold maxLen;omega) (by omega) (by simp;omega) ?_;intro v5 w5 hown5 hgrow5 _))
  have hO5:OwnB B w5 v5 (l++[0]):=OwnB.more hown5 rfl
  have bl5:=(bl4.trans (Bel.of ((Below.refl B w4).alloc hs4 (.cells #[.int .u8 0] 5))) hBw).trans (Bel.of ((hO4.alloc _).grown hgrow5 (by simp;omega))) hBw
  clear hown5 hgrow5
  obtain ⟨g5,c5,rfl,_,_,_,hc5,hb5⟩:=owns_byt hO5 (by simp)
  obtain ⟨n5,e5⟩:∃ n,(l++[0]).length=n:=⟨_,rfl⟩
  have E5:Hid ((l++[0]).length=n5):=e5
  rw [e5]
  clear hO5 e5
  refine reaR_split hDk (reaR_go goodP hDk (by kernel_rfl) sfcn fun R hR τ d => ?_)
  replace bl5:=bl5.tp τ d
  replace hb5:Byt ({ w5 with tape:=τ,drawn:=d }:World) g5 0 (l++[0]):=hb5
  generalize ({ w5 with tape:=τ,drawn:=d }:World)=w5 at bl5 hb5 ⊢
  have kq:=parse_bad (ad:=⟨g5,0,none⟩) (cap:=c5) (l:=l++[0]) (hG.sub (bel_sub bl5)) (fun j hj=>by rw [add_off];exact hb5 j hj) hc5 (by simp;omega) hp2
  rw [E5.out] at kq
  unfold zeroShard shardL at kq
  simp only at kq
  simp only [cn17,cn12,cn10,cn9,cn4,cn3,cnBody,gFst,gSnd,Tryz.f3,Option.getD_some]
  go_wp2_with (first | (go_at_call 11;(with_reducible refine kq.mono ?_);rintro r w6 ⟨hb6,rfl⟩))
  clear kq
  have bl6:=(bl5.trans (Bel.of hb6) bl5.size').trans (Bel.of ((Below.refl w6.heap.size w6).alloc (Nat.le_refl _) (.cells #[.int .i64 0,.int .i64 0,.int .i64 0,.int .i64 0,.slice none 0 0,.slice none 0 0,.slice none 0 0] 36))) (Nat.le_trans bl5.size' hb6.size)
  generalize w6.heap.size=pz6 at bl6 ⊢
  generalize w6.alloc (.cells #[.int .i64 0,.int .i64 0,.int .i64 0,.int .i64 0,.slice none 0 0,.slice none 0 0,.slice none 0 0] 36)=w7 at bl6 ⊢
  refine reaR_split hDk (reaR_go goodP hDk (by kernel_rfl) sfcn fun R hR τ d => ?_)
  replace bl6:=bl6.tp τ d
  generalize ({ w7 with tape:=τ,drawn:=d }:World)=w7 at bl6 ⊢
  simp only [cn17,cn12,cn10,cn9,cn4,cn3,cnBody,gFst,gSnd,Tryz.f3,Option.getD_some]
  go_wp2
  exact hnext _ _ ⟨_,tcn_mk rfl⟩ bl6
end
theorem dot_unit {k i:Nat} {x:Nat→Nat} (hi:i < k) (hx:∀ j,x j < 256):∀ n,dotN (rowV k i) x n=if i < n then x i else 0
  | 0=>rfl
  | n+1=>by
    show dotN (rowV k i) x n ^^^ mul (rowV k i n) (x n)=_
    rw [dot_unit hi hx n]
    have hr:rowV k i n=if n=i then 1 else 0:=by unfold rowV;rw [if_pos hi]
    rw [hr]
    by_cases e:n=i
    · subst e
      rw [if_pos rfl,if_neg (by omega),if_pos (by omega),mul_comm (by omega) (hx n),mul_one (hx n),Nat.zero_xor]
    · rw [if_neg e,zero_mul,Nat.xor_zero]
      by_cases q:i < n
      · rw [if_pos q,if_pos (by omega)]
      · rw [if_neg q,if_neg (by omega)]
theorem col_unit {k L i m:Nat} {l:List UInt8} (hi:i < k) (hm:m < L):bAt (colB k L l i) m=bAt l (i*L+m):=by
  have h:=dot_unit (x:=fun j=>xAt l L j m) hi (fun j=>bAt_lt _ _) k
  rw [if_pos hi] at h
  unfold colB
  simp only [bAt,List.getD_eq_getElem?_getD,List.getElem?_map,List.getElem?_range hm,Option.map_some,Option.getD_some]
  rw [h]
  show (UInt8.ofNat (bAt l (i*L+m))).toNat=_
  rw [UInt8.toNat_ofNat',Nat.mod_eq_of_lt (bAt_lt _ _)]
  rfl
theorem bAt_out {l:List UInt8} {i:Nat} (h:l.length≤i):bAt l i=0:=by
  simp only [bAt,List.getD_eq_getElem?_getD]
  rw [List.getElem?_eq_none h]
  rfl
def encSh (K N C m:Nat) (f:Nat→Ent) (d:Ent→List UInt8) (i:Nat):Sh:=⟨K,N,i,C,namesOf m f,sizesOf m f,colB K (lenC K (joinD (fun j=>d (f j)) m).length) (joinD (fun j=>d (f j)) m) i⟩
theorem enc_good {K N C m i:Nat} {f:Nat→Ent} {d:Ent→List UInt8} (hP:ParamsOk (K:Int) (N:Int) (C:Int)) (hN:NamesOk (namesOf m f)) (hF:FewOk (namesOf m f) (sizesOf m f)) (hd:∀ j,j < m→(d (f j)).length=(f j).l) (hi:i < N) :
    (encSh K N C m f d i).Fine∧(encSh K N C m f d i).Listed∧(encSh K N C m f d i).Few∧(encSh K N C m f d i).Long∧¬ (encSh K N C m f d i).Bad:=by
  have ht:=tot_sizes d f m hd
  refine ⟨(Sh.fine_iff _).2 ⟨hP,?_,?_⟩,(Sh.listed_iff _).2 (names_listed hN),(Sh.few_iff _).2 hF,?_,?_⟩
  · show (0:Int)≤(i:Int);omega
  · show (i:Int) < (N:Int);omega
  · show (colB _ _ _ _).length=lenC (K:Int).toNat (tot (sizesOf m f))
    rw [colB_length,ht]
    rfl
  · rintro ⟨h1,q,h2,h3,h4⟩
    have h1':(i:Int) < (K:Int):=h1
    have h2':q < (colB K (lenC K (joinD (fun j=>d (f j)) m).length) (joinD (fun j=>d (f j)) m) i).length:=h2
    have h3':tot (sizesOf m f)≤i*lenC K (tot (sizesOf m f))+q:=h3
    rw [colB_length] at h2'
    rw [ht] at h3'
    refine h4 ?_
    show bAt (colB K (lenC K (joinD (fun j=>d (f j)) m).length) (joinD (fun j=>d (f j)) m) i) q=0
    rw [col_unit (by omega) h2',bAt_out h3']
theorem enc_bytes {K N C m i:Nat} {f:Nat→Ent} {d:Ent→List UInt8} (hK:K≤255) (hN:N≤255) (hi:i≤255):shardB K N C (namesOf m f) (sizesOf m f) i (colB K (lenC K (joinD (fun j=>d (f j)) m).length) (joinD (fun j=>d (f j)) m) i)=wrB (encSh K N C m f d i):=by
  unfold shardB wrB headB manB encSh
  simp only [Int.toNat_natCast]
  rw [b8_nat K hK,b8_nat N hN,b8_nat i hi]
theorem srt_nm {m:Nat} {f:Nat→Ent} (hm:m≤5) (h:∀ j,j < m→(f j).k=nmOf j):Srt m f:=by
  intro i hi
  rw [h i (by omega),h (i+1) hi]
  have:i < 4:=by omega
  match i,this with
  | 0,_=>show Hp.lt (nmOf (0+1)) (nmOf 0)=false;decide
  | 1,_=>show Hp.lt (nmOf (1+1)) (nmOf 1)=false;decide
  | 2,_=>show Hp.lt (nmOf (2+1)) (nmOf 2)=false;decide
  | 3,_=>show Hp.lt (nmOf (3+1)) (nmOf 3)=false;decide
theorem sizes_nat {zs:List Int} (h:SizesOk zs):natV (zs.map Int.toNat)=intV zs:=by
  unfold natV intV
  rw [List.map_map]
  apply List.ext_getElem
  · simp
  · intro i h1 h2
    have hi:i < zs.length:=by simpa using h2
    have:=h i hi
    rw [List.getD_eq_getElem?_getD,List.getElem?_eq_getElem hi,Option.getD_some] at this
    simp only [List.getElem_map,Function.comp]
    rw [Int.toNat_of_nonneg this]
theorem names_err (l:List UInt8) (en:Nat):∀ (c a:Nat) (ns:List (List UInt8)) (zs:List Nat) (e:Nat×Nat),blobsE l en c a ns zs = .error e→e.1≠0
  | 0,a,ns,zs,e,h=>by unfold blobsE at h;cases h
  | c+1,a,ns,zs,e,h=>by
    unfold blobsE at h
    split at h
    · cases h;simp
    · split at h
      · cases h;simp
      · split at h
        · cases h;simp
        · split at h
          · cases h;simp
          · exact names_err l en c _ _ _ e h
theorem frames_ne (l:List UInt8) (low:Bool) (ch ln:Nat) (en:Int):∀ (f a:Nat) (col:List UInt8) (e:Nat×Nat),framesE l low ch ln en f a col = .error e→e.1≠0
  | 0,a,col,e,h=>by unfold framesE at h;cases h
  | f+1,a,col,e,h=>by
    unfold framesE at h
    split at h
    · cases h
    · split at h
      · rename_i x hx
        cases h
        exact errs_sealE l _ _ _ hx
      · split at h
        · rename_i x hx
          cases h
          split at hx
          · exact errs_padE _ _ _ _ _ hx
          · cases hx
        · exact frames_ne l low ch ln en f _ _ e h
theorem parse_ne {z:List UInt8} {e:Nat×Nat} (h:parseE z = .error e):e.1≠0:=by
  unfold parseE at h
  split at h
  · rename_i x hx
    cases h
    unfold headE at hx
    split at hx
    · rename_i y hy
      cases hx
      exact ((errs_fixE z _ _).or (errs_sealE z _ _)) _ hy
    · refine (?_:Errs _) _ hx
      unfold headR
      exact (((((((errs_none.or (errs_mustE (by decide))).or (errs_mustE (by decide))).or (errs_mustE (by decide))).or (errs_mustE (by decide))).or (errs_mustE (by decide))).or (errs_mustE (by decide))).or (errs_mustE (by decide))).or (errs_mustE (by decide))
  · split at h
    · rename_i x hx
      cases h
      unfold namesE at hx
      split at hx
      · rename_i y hy
        cases hx
        exact errs_sealE z _ _ _ hy
      · split at hx
        · cases hx;simp
        · unfold endE at hx
          split at hx
          · rename_i y hy
            cases hx
            exact names_err z _ _ _ _ _ _ hy
          · split at hx
            · cases hx
            · cases hx;simp
    · split at h
      · split at h
        · rename_i x hx
          cases h
          exact frames_ne z _ _ _ _ _ _ _ _ hx
        · split at h
          · rename_i x hx
            cases h
            exact ((errs_fixE z _ _).or (errs_mustE (by decide))) _ hx
          · cases h
      · cases h;simp
end Go.Proofs.YtkpcmfgeanlcnabGreatDoor
namespace Go.Proofs.YtkpcmfgeanlcnabGreatDoor
open Go.RowKit Go.Deep Go.Lf Go.Conc Go.ConcN Go.Gh Go.Hp
open Go.ConcR (Payload WgAt wgBlock)
theorem frames_len (c:Nat) (col:List UInt8):∀ j,(framesTo c col j).length≤j*(c+8)
  | 0=>by simp [framesTo]
  | j+1=>by
    rw [framesTo_succ,List.length_append,Nat.add_mul]
    have h1:=frames_len c col j
    have h2:(frameB c col j).length≤c+8:=by
      unfold frameB
      rw [sealB_length]
      unfold part
      rw [List.length_take]
      omega
    omega
theorem wr_len {s:Sh} (h1:s.Fine) (h3:s.Few) (h4:s.Long):0 < (wrB s).length∧(wrB s).length≤10000000000:=by
  have f:=frames_len s.C.toNat s.col (nFr s.C.toNat s.col.length)
  have hk:1≤s.K.toNat:=by have:=h1.k1;omega
  have hl:s.col.length≤65536:=by
    have a1:=lenC_le hk (tot s.zs)
    have a2:=h3.bytes
    have a3:s.col.length=_:=h4
    omega
  have hc1:1≤s.C.toNat:=by have:=h1.c1;omega
  have hc2:s.C.toNat≤65536:=by have:=h1.c2;omega
  have hn:nFr s.C.toNat s.col.length≤65536:=by
    have:=lenC_le hc1 s.col.length
    unfold lenC at this
    unfold nFr
    omega
  have hm:=manB_length s
  have hm2:=h3.man
  have hp:=Nat.mul_le_mul hn (show s.C.toNat+8≤65544 by omega)
  unfold wrB
  simp only [List.length_append,sealB_length,head_len,hm,List.length_cons,List.length_nil]
  omega
theorem in_of {s:Sh} (h2:s.Listed) (h3:s.Few) (h4:s.col.length≤65536) {w:World} {B:Nat} {vN vS vC:Value} (o1:w.ownsRow B 9 1 vN (shdOf s).names.length (strsV (shdOf s).names)) (o2:w.ownsRow B 3 1 vS (shdOf s).sizes.length (natV (shdOf s).sizes)) (o3:w.ownsRow B 5 1 vC (shdOf s).col.length (u8V (shdOf s).col)):s.In w vN vS vC:=by
  refine ⟨lies_owns o1,?_,lies_owns o3,?_,?_,by omega,?_⟩
  · have:=lies_owns o2
    rwa [show (shdOf s).sizes=s.zs.map Int.toNat from rfl,sizes_nat h2.sizes] at this
  · have:=h3.blobs;omega
  · have:=h3.blobs;have:=h2.len;omega
  · intro x hx
    obtain ⟨i,hi,rfl⟩:=List.mem_iff_getElem.1 hx
    have:=(h2.names i hi).1.2
    rw [List.getD_eq_getElem?_getD,List.getElem?_eq_getElem hi,Option.getD_some] at this
    omega
section
variable {X:Nat→Prop} {Y:Nat→Option Obj} {D:Nat→World→Array Event→Prop} {Stop:Goroutine→World→Prop} {w:World} {K N C m pb:Nat} {f:Nat→Ent} {Dt:Nat→List UInt8} {bo:Option Addr} {cap:Nat}
theorem cn_rest (hDk:Dok X D) {T:Array Value} {z4 z5:Int} {z:List UInt8} {a:Addr} {bh:Nat} {vi:Value} (hT:TC2 (.int .i64 z4) (.int .i64 z5) (.string ⟨z.toArray⟩) pb (.slice bo m cap) (.slice (some ⟨bh,0,none⟩) N N) T) (h4:In64 z4) (h5:In64 z5) (hz:z.length≤4611686018427387904) (hP:ParamsOk (K:Int) (N:Int) (C:Int)) (hS:SmP K N C m f Dt pb (.slice bo m cap) w) (hA:Args w bo m cap f (dOf Dt)) (hG:Gl a w)
    (hcell:w.cell? ⟨bh,pickN z4 N,none⟩=some vi) (hown:OwnB 0 w vi (wrB (encSh K N C m f (dOf Dt) (pickN z4 N)))) (hd:∀ j,j < m→(dOf Dt (f j)).length=(f j).l)
    (hfin:∀ (T':Array Value) (kk:List Item) (w':World),T'.getD 14 undef = .bool true→Bel w.heap.size w w' → ReaR Tryz.prog X Y D Stop none [] 3 [] (.code .ret :: kk) T' w') :
    ReaR Tryz.prog X Y D Stop none [] 3 [] [.code cn4] T w:=by
  obtain ⟨⟨q1,q2,q3⟩,q4,q5⟩:=id hP
  have hi:pickN z4 N < N:=pickN_lt z4 (by omega)
  have hNm:NamesOk (namesOf m f):=(names_iff (Rearr.refl m f) (srt_nm hS.hm hS.nm)).2 hS.fits
  have hFw:=few_ok hS.hm hS.len2 (Rearr.refl m f)
  obtain ⟨s1,s2,s3,s4,s5⟩:=enc_good hP hNm hFw hd hi
  obtain ⟨l1,l2⟩:=wr_len s1 s3 s4
  have hcolL:(encSh K N C m f (dOf Dt) (pickN z4 N)).col.length≤65536:=by
    have a1:=lenC_le (k:=(encSh K N C m f (dOf Dt) (pickN z4 N)).K.toNat) (by have:=s1.k1;omega) (tot (encSh K N C m f (dOf Dt) (pickN z4 N)).zs)
    have a2:=s3.bytes
    have a3:(encSh K N C m f (dOf Dt) (pickN z4 N)).col.length=_:=s4
    omega
  have hp:=parse_wr s1 s2 s3 s4 s5 []
  rw [List.append_nil,if_pos rfl] at hp
  obtain ⟨g,cg,rfl,_,_,_,hcg,hb⟩:=owns_byt hown l1
  refine cn_one hDk hT h4 hS hG (by omega) (by omega) hcell hb hcg (by omega) hp fun T3 sb vN vS vC w3 hT3 hr3 bl3 o1 o2 o3 => ?_
  have hIn:=in_of s2 s3 hcolL o1 o2 o3
  refine cn_write (s:=encSh K N C m f (dOf Dt) (pickN z4 N)) hDk hT3 hr3 s1 s2 s3 s4 s5 hIn (hG.sub (bel_sub bl3)).tab fun T4 y w4 hT4 hO4 hK4 => ?_
  have sub4:=(bel_sub bl3).trans (kept_sub hK4)
  have bl4:Bel w.heap.size w w4:=⟨hK4.os.trans bl3.os,rfl,hK4.output.trans bl3.output,Nat.le_trans bl3.size' hK4.size,fun b hb'=>(hK4.block b (Nat.lt_of_lt_of_le hb' bl3.size')).trans (bl3.blk hb')⟩
  obtain ⟨gy,cy,rfl,_,_,_,_,hy⟩:=owns_byt hO4 l1
  obtain ⟨xN,yN,rfl⟩:=owns_form o1
  obtain ⟨xS,yS,rfl⟩:=owns_form o2
  have hr4:=(kept_sub hK4).row hr3
  have en:(shdOf (encSh K N C m f (dOf Dt) (pickN z4 N))).names.length=m:=namesOf_length m f
  have ez:(shdOf (encSh K N C m f (dOf Dt) (pickN z4 N))).sizes.length=m:=by
    show ((sizesOf m f).map Int.toNat).length=m
    rw [List.length_map,sizesOf_length]
  rw [en,ez] at hr4
  rw [en] at o1
  rw [ez] at o2
  refine cn_cmp hDk hT4 (sub4.byt hb) hy (hS.sub sub4).par hr4 fun T5 hT5 => ?_
  refine cn_loop (f:=f) hDk hS.hm hT5 hr4 (sub4.args hA).bc (fun j hj => ?_) (fun j hj => ?_) fun T6 w6 hT6 bl6 => ?_
  · obtain ⟨ba,cp,e1,_,e2⟩:=(kept_sub hK4).lies (lies_owns o1)
    injection e1 with e1 _ _
    subst e1
    exact e2 j _ (by show (strsV (namesOf m f))[j]? = _;rw [strV_at (by rw [namesOf_length];exact hj)];simp [namesOf,List.getD_eq_getElem?_getD,hj])
  · obtain ⟨ba,cp,e1,_,e2⟩:=(kept_sub hK4).lies (lies_owns o2)
    injection e1 with e1 _ _
    subst e1
    exact e2 j _ (by show (natV ((sizesOf m f).map Int.toNat))[j]? = _;rw [natV_at (by rw [List.length_map,sizesOf_length];exact hj)];simp [sizesOf,List.getD_eq_getElem?_getD,hj])
  have bl46:=bl4.trans bl6 bl4.size'
  refine cn_cut hDk hT6 h5 (hG.sub (bel_sub bl46)) ((bel_sub bl46).byt hb) l1 l2 hcg (fun q hq=>parse_wr_cut s1 s2 s3 s4 s5 hq) (by rw [parse_wr s1 s2 s3 s4 s5 [0],if_neg (by simp)]) fun T7 w7 hT7 bl7 => ?_
  have bl47:=bl46.trans bl7 bl46.size'
  refine cn_any hDk hz hT7 (hG.sub (bel_sub bl47)) (fun T8 sb8 e w8 he hT8 bl8 => ?_) (fun T8 sb8 d vN8 vS8 vC8 w8 he hT8 hr8 bl8 p1 p2 p3 => ?_)
  · have:=parse_ne he
    exact cn_end_bad hDk hT8 (by omega) fun T9 kk h14=>hfin T9 kk w8 h14 (bl47.trans bl8 bl47.size')
  · refine cn_end_ok hDk hT8 fun T9 hT9 => ?_
    have bl48:=bl47.trans bl8 bl47.size'
    obtain ⟨t1,t2,t3,t4,t5,t6⟩:=parse_inv he
    have hcol8:d.sh.col.length≤65536:=by
      have a1:=lenC_le (k:=d.sh.K.toNat) (by have:=t1.k1;omega) (tot d.sh.zs)
      have a2:=t3.bytes
      have a3:d.sh.col.length=_:=t4
      omega
    have esz:(shdOf d.sh).sizes=d.sizes:=toNat_ofNats d.sizes
    have hIn8:=in_of (s:=d.sh) t2 t3 hcol8 p1 (by rw [esz];exact p2) p3
    refine cn_write2 (s:=d.sh) hDk hT9 hr8 t1 t2 t3 t4 t5 hIn8 (hG.sub (bel_sub bl48)).tab fun T10 y10 w10 hT10 hO10 hK10 => ?_
    rw [t6] at hO10
    have hz0:0 < z.length:=by rw [← t6];exact (wr_len t1 t3 t4).1
    refine cn_last hDk hz0 hT10 hO10 fun T11 kk h14=>hfin T11 kk w10 h14 ⟨hK10.os.trans bl48.os,rfl,hK10.output.trans bl48.output,Nat.le_trans bl48.size' hK10.size,fun b hb'=>(hK10.block b (Nat.lt_of_lt_of_le hb' bl48.size')).trans (bl48.blk hb')⟩
end
set_option maxHeartbeats 4000000 in
set_option maxRecDepth 100000 in
theorem canon_ok {w:World} {vr:Value} {k n c z4 z5:Int} {zr:List Int} {z:List UInt8} {a:Addr} (hr:Ints w vr zr) (hlr:zr.length < 9223372036854775807) (hk:In64 k) (hn:In64 n) (hc:In64 c) (h4:In64 z4) (h5:In64 z5) (hz:z.length≤4611686018427387904) (hG:Gl a w) :
    Ok Tryz.prog (fun v w'=>v = .bool true∧Kz w.heap.size w w') (solo (G (Frame.enter Tryz.prog 3 #[vr,.int .i64 k,.int .i64 n,.int .i64 c,.int .i64 z4,.int .i64 z5,.string ⟨z.toArray⟩] .normal) []) w) #[]:=by
  have hP:=params_ok k n c
  have hN:=nOf_le n
  obtain ⟨Y,v,hsim,hcl⟩:=doctorX w (fun _=>False) (fun b h=>h.elim)
  have hsub:Sub w v:=⟨by rw [hsim.size];exact Nat.le_refl _,fun b cc t fr h=>hcl b cc t fr (fun x=>x) h⟩
  have hsz:w.heap.size=v.heap.size:=hsim.size
  have e:Frame.enter Tryz.prog 3 #[vr,.int .i64 k,.int .i64 n,.int .i64 c,.int .i64 z4,.int .i64 z5,.string ⟨z.toArray⟩] .normal=(base 3).at ⟨#[vr,.int .i64 k,.int .i64 n,.int .i64 c,.int .i64 z4,.int .i64 z5,.string ⟨z.toArray⟩]++Array.replicate 226 undef,[]⟩ [.code cnBody]:=by
    rw [enter_at _ Tryz.func3 (c:=cnBody) (by kernel_rfl),show Tryz.f3.ntmps - (#[vr,.int .i64 k,.int .i64 n,.int .i64 c,.int .i64 z4,.int .i64 z5,.string ⟨z.toArray⟩]:Array Value).size=226 from by rw [Tryz.ntmps3];rfl]
  rw [e]
  have hB0:Bes Tryz.prog (ShunX fun _=>False) 0 #[G ((base 3).at ⟨#[vr,.int .i64 k,.int .i64 n,.int .i64 c,.int .i64 z4,.int .i64 z5,.string ⟨z.toArray⟩]++Array.replicate 226 undef,[]⟩ [.code cnBody]) []] w #[] (fun _=>0):=
    bes_solo (fun op h=>by simp at h) (fun op h=>by simp at h) (fun op h=>by simp at h) rfl
  refine late (Fin:=Ok Tryz.prog _) (Shun:=ShunX fun _=>False) (e:=0) ok_pre (fun _ _ _ h=>h) (fun gs1 a1 W1 sl1 t1 q1 h01 hst hB1 => ?_) (cn_first (Stop:=fun gr W=>∃ T m f Dt pb vb v1,TC1 (.int .i64 z4) (.int .i64 z5) (.string ⟨z.toArray⟩) pb vb T∧SmP (kOf k n) (nOf n) (cOf c) m f Dt pb vb v1∧Bel v.heap.size v v1∧AtE (fun _=>False) Y (kOf k n) (nOf n) (cOf c) vb (frC T) v1 gr W) (dokX _) (hr.sub hsub) hlr hk hn hc (fun T m f Dt pb vb v1 hT1 hS1 hb1=>cn_into (dokX _) hT1 hS1 fun T' hT' y hy=>.stop fun d=>⟨T',m,f,Dt,pb,vb,v1,hT',hS1,hb1,rfl,hy.at d⟩) w hsim.t) w.drawn _ none #[] _ rfl hB0
  obtain ⟨T,m,f,Dt,pb,vb,v1,hT1,hS1,hb1,rfl,hs1⟩:=hst W1.drawn
  replace hs1:SimT (fun _=>False) Y W1 v1:=hs1
  have hz1:=kz_sim hsim.t hs1 hb1 (fun b h=>h.elim)
  rw [← hsz] at hz1
  obtain ⟨bo,cap,rfl,hA1⟩:=hS1.args
  have hG1:Gl a v1:=(hG.sub hsub).sub (bel_sub hb1)
  refine encode_call ok_pre h01 hB1 hs1 hA1 hP hS1.fits (fun g hR _=>few_ok hS1.hm hS1.len2 hR) hG1.tab (by omega) ?_
  intro g1 bh Wg ov gs2 W2 sl2 t2 q2 Y2 v2 hR1 hSr1 h02 hB2 hs2 hWg hsb2 hkp2 hcl2 hown2
  have hz2:=hkp2.kz (h0:=w.heap.size) (fun b h=>h.elim) hz1.size
  have hX1:∀ b,(False∨b=Wg)→w.heap.size≤b:=fun b h=>by
    rcases h with h | rfl
    · exact h.elim
    · exact Nat.le_trans hz1.size hWg
  have hgg:∀ i,i < m→g1 i=f i:=sorted_same hS1.fits (Rearr.refl m f) hR1 (srt_nm hS1.hm hS1.nm) hSr1
  rw [names_same hgg,sizes_same hgg,join_same m hgg] at hown2
  have hi:pickN z4 (nOf n) < nOf n:=pickN_lt z4 (by omega)
  have hK:=hP.1.2.1
  have hown:=hown2 _ hi
  rw [enc_bytes (d:=dOf Dt) (by omega) (by omega) (by omega)] at hown
  have hkz:=hz1.trans hz2
  have hvs:v.heap.size≤v2.heap.size:=Nat.le_trans hb1.size' hsb2.1
  refine ok_late h02 hB2 (cn_out (dokX _) hT1 (fun T2 hT2=>cn_rest (dokX _) hT2 h4 h5 hz hP (hS1.sub hsb2) (hsb2.args hA1) (hG1.sub hsb2) (hcl2 _ hi) hown (fun j hj=>(hA1.dat j hj).1) fun T' kk w' h14 hbl => ?_) W2 hs2)
  refine reaR_done (dokX _) Tryz.func3 (by kernel_rfl) (y:=.bool true) (fun u => ?_) (fun u d hst' hend => ?_)
  · rw [Sem.runT_eq,results_tmp (fn:=Tryz.f3) (t:=14) rfl _ _ _,events_results_tmp (fn:=Tryz.f3) (t:=14) rfl _ _,h14]
  · refine ⟨rfl,#[],by simp,fun d'=>⟨.bool true,hend d',rfl,?_⟩⟩
    have:=kz_sim hs2 hst' (h0:=w.heap.size) (hbl.mono (by omega)) hX1
    exact hkz.trans ⟨this.os,this.output,this.size,this.block⟩
end Go.Proofs.YtkpcmfgeanlcnabGreatDoor
namespace Go.Proofs.YtkpcmfgeanlcnabGreatDoor
open Go.RowKit
theorem gFour:Tryz.prog.globalNamed "cairn/sum.fourSteps" = some 2:=by kernel_rfl
theorem tFour:(Tryz.prog.globals[2]?).map (·.type)=some 199:=by kernel_rfl
theorem gPow:Tryz.prog.globalNamed "internal/strconv.uint64pow10" = some 4:=by kernel_rfl
theorem tPow:(Tryz.prog.globals[4]?).map (·.type)=some 244:=by kernel_rfl
theorem gEarly:Tryz.prog.globalNamed "cairn/fault.TooEarly" = some 0:=by kernel_rfl
theorem tEarly:(Tryz.prog.globals[0]?).map (·.type)=some 70:=by kernel_rfl
theorem gErrT:Tryz.prog.globalNamed "errors.errorType" = some 1:=by kernel_rfl
theorem star : "*" ++ "errors.errorString" = "*errors.errorString" := by decide
theorem rowErrS (u:TypeId) (h:Tryz.prog.typeName? 3 u=some "*errors.errorString"):u=251:=
  typeName_ptr_named (nm := "errors.errorString") (by rw [star];kernel_rfl) (by kernel_rfl) (by decide) u (by rw [star];exact h)
theorem rtRow:(Tryz.prog.cutTypes.find? (·.1 == "internal/reflectlite.rtype")).map (·.2)=some 190:=by kernel_rfl
theorem nTypes:Tryz.prog.types.size=282:=by kernel_rfl
theorem oneError:((List.range 282).filter fun t=>Tryz.prog.rowNamed t [101,114,114,111,114])=[70]:=by kernel_rfl
theorem laid_one {L:List (String×DataW Unit)} {W:World} (h:laidMetH Tryz.prog L W) (n:String) (d:DataW Unit) (hf:L.filter (fun x=>x.1 == n)=[(n,d)]) (hn:d.handleName?.isNone=true):laidMet Tryz.prog [(n,d)] W:=by
  have:=h.filter (fun x=>x.1 == n)
  rw [hf] at this
  rwa [MakeChecks.laidMetH_plain _ _ _ (by simp [hn])] at this
theorem tab_laid {W:World} (h:laidMetH Tryz.prog Rows.canonRow.laid W):Tab W:=by
  have h1:=laid_one h "cairn/sum.fourSteps" Rows.laid_cairn_sum_fourSteps (by rfl) (by rfl)
  have hT:Lib.TabIs Tryz.prog W "cairn/sum.fourSteps" .u64 (crcTab.map fun (n:Nat)=>(n:Int)):=
    Lib.tabIs_of_head gFour tFour Tryz.underlying199 Tryz.underlying74 (by kernel_rfl) (by kernel_rfl) h1
  have hc:∀ i,i < 16→W.cell? ⟨2,i,none⟩=some (.int .u64 ((crcTab.getD i 0:Nat):Int)):=by
    intro i hi
    have:=hT.cell gFour i (by simpa [crcTab] using hi)
    rw [this]
    simp only [List.getD_eq_getElem?_getD,List.getElem?_map]
    cases crcTab[i]? <;> simp
  exact ⟨cell_lt (hc 0 (by omega)),hc⟩
theorem pow_laid {W:World} (h:laidMetH Tryz.prog Rows.canonRow.laid W):Pow W∧4 < W.heap.size:=by
  have h1:=laid_one h "internal/strconv.uint64pow10" Rows.laid_internal_strconv_uint64pow10 (by rfl) (by rfl)
  have hT:Pow W:=Lib.tabIs_of_head gPow tPow Tryz.underlying244 Tryz.underlying74 (by kernel_rfl) (by kernel_rfl) h1
  exact ⟨hT,cell_lt (Lib.TabIs.cell hT gPow 0 (by decide))⟩
theorem early_laid {W:World} (h:laidMetH Tryz.prog Rows.canonRow.laid W):∃ a,Early W a:=by
  have h1:=laid_one h "cairn/fault.TooEarly" Rows.laid_cairn_fault_TooEarly (by rfl) (by rfl)
  obtain ⟨a,s,hv,_⟩:=laid_sentinel h1 gEarly tEarly Tryz.underlying70 rowErrS Tryz.underlying251 Tryz.underlying271 rfl rfl Tryz.underlying9 (by kernel_rfl) (by kernel_rfl)
  exact ⟨a,by unfold Early;simpa using World.var?_cell gEarly hv 0⟩
theorem errT_laid {W:World} (h:laidMetH Tryz.prog Rows.canonRow.laid W):ErrT W:=by
  have h':=(laidMetH_iff.1 h).2
  obtain ⟨name,u,ty,e1,e2,e3,e4,e5⟩:=h' ("errors.errorType",Rows.laid_errors_errorType) (List.mem_filter.2 ⟨by simp [Rows.canonRow],rfl⟩)
  have en:name=[101,114,114,111,114]:=(Option.some.inj e1).symm
  subst en
  obtain rfl:=Option.some.inj (rtRow.symm.trans e2)
  have hm:ty∈(List.range 282).filter fun t=>Tryz.prog.rowNamed t [101,114,114,111,114]:=List.mem_filter.2 ⟨List.mem_range.2 (by rw [← nTypes];exact e3),e4⟩
  rw [oneError] at hm
  obtain rfl:=List.mem_singleton.1 hm
  have hh:typeHandle Tryz.prog 70 = .pointer (some ⟨7,70,none⟩):=by kernel_rfl
  rw [hh] at e5
  unfold ErrT
  simpa using World.var?_cell gErrT e5 0
end Go.Proofs.YtkpcmfgeanlcnabGreatDoor
