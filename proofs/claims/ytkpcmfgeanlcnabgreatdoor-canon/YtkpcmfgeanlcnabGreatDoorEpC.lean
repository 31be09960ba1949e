/-
  What the program's Write of a shard answers.
-/
import Derived.Test.YtkpcmfgeanlcnabGreatDoorEnN
import Derived.Test.YtkpcmfgeanlcnabGreatDoorWrE
import Derived.Deep.RegionHeld3
import Derived.Test.YtkpcmfgeanlcnabGreatDoorEpB
import Derived.Test.YtkpcmfgeanlcnabGreatDoorEnV
namespace Go.Proofs.YtkpcmfgeanlcnabGreatDoor
open Go.RowKit Go.Deep
theorem check_any (s:Sh) (vN vS vC:Value) (w:World) (h:s.In w vN vS vC) :
    Calls Tryz.prog 24 #[shV s vN vS vC] w fun r w'=>r = .returned (.int .i64 (s.err:Nat))∧Below w.heap.size w w':=by
  by_cases h1:s.Fine
  · have hF:=(Sh.fine_iff s).1 h1
    by_cases h2:s.Listed
    · by_cases h3:s.Few
      · have hk:s.K=(s.K.toNat:Int):=by have:=h1.k1;omega
        have hi:s.I=(s.I.toNat:Int):=by have:=h1.i0;omega
        refine check_rest s.K s.N s.I s.C s.ns s.zs s.col vN vS vC w h hF.1 hF.2.1 hF.2.2 ((Sh.listed_iff s).1 h2) ((Sh.few_iff s).1 h3) s.K.toNat s.I.toNat hk hi s.err ?_
        show s.err=_
        unfold Sh.err
        rw [if_neg (show ¬ ¬ s.Fine from fun x=>x h1),if_neg (show ¬ ¬ s.Listed from fun x=>x h2),if_neg (show ¬ ¬ s.Few from fun x=>x h3)]
        unfold Sh.Long
        by_cases h4:s.col.length=lenC s.K.toNat (tot s.zs)
        · rw [if_neg (show ¬ ¬ s.col.length=lenC s.K.toNat (tot s.zs) from fun x=>x h4),if_neg (show ¬ ¬ s.col.length=lenC s.K.toNat (tot s.zs) from fun x=>x h4)]
          have:s.Bad↔0≤firstI s.col (usedI s.K.toNat s.I.toNat (tot s.zs)):=by
            rw [bad_iff h4]
            unfold Sh.Bad
            constructor
            · rintro ⟨a,b⟩;exact ⟨by omega,b⟩
            · rintro ⟨a,b⟩;exact ⟨by omega,b⟩
          by_cases h5:s.Bad
          · rw [if_pos h5,if_pos (this.1 h5)]
          · rw [if_neg h5,if_neg (fun x=>h5 (this.2 x))]
        · rw [if_pos h4,if_pos h4]
      · have e:s.err=3:=by unfold Sh.err;rw [if_neg (show ¬ ¬ s.Fine from fun x=>x h1),if_neg (show ¬ ¬ s.Listed from fun x=>x h2),if_pos h3]
        rw [e]
        exact check_many s.K s.N s.I s.C s.ns s.zs s.col vN vS vC w h hF.1 hF.2.1 hF.2.2 ((Sh.listed_iff s).1 h2) (fun x=>h3 ((Sh.few_iff s).2 x))
    · have e:s.err=2:=by unfold Sh.err;rw [if_neg (show ¬ ¬ s.Fine from fun x=>x h1),if_pos h2]
      rw [e]
      exact check_list s.K s.N s.I s.C s.ns s.zs s.col vN vS vC w h hF.1 hF.2.1 hF.2.2 (fun x=>h2 ((Sh.listed_iff s).2 x))
  · have e:s.err=1:=by unfold Sh.err;rw [if_pos h1]
    rw [e]
    exact check_params s vN vS vC w h1
theorem Lies.heap {w w':World} {v:Value} {xs:List Value} (h:Lies w v xs) (hh:w'.heap=w.heap):Lies w' v xs:=by
  obtain ⟨ba,cap,rfl,hle,hc⟩:=h
  refine ⟨ba,cap,rfl,hle,fun j u hj => ?_⟩
  obtain ⟨b,off,e,h1⟩:=hc j u hj
  refine ⟨b,off,e,?_⟩
  unfold World.cell? at *
  rw [hh];exact h1
theorem OwnB.base {B B':Nat} {w:World} {v:Value} {l:List UInt8} (h:OwnB B w v l) (hB:B' ≤ B):OwnB B' w v l:=by
  refine ⟨h.1,?_⟩
  rcases h.2 with x | ⟨g,cap,cur,h1,h2,h3⟩
  · exact .inl x
  · exact .inr ⟨g,cap,cur,h1,Nat.le_trans hB h2,h3⟩
theorem b8_nat (k:Nat) (hk:k≤255):b8 (k:Int)=UInt8.ofNat k:=by
  unfold b8
  rw [Int.toNat_natCast,Nat.mod_eq_of_lt (by omega)]
end Go.Proofs.YtkpcmfgeanlcnabGreatDoor
namespace Go.Proofs.YtkpcmfgeanlcnabGreatDoor
open Go.RowKit Go.Deep Go.Lf Go.Conc Go.Hp
noncomputable def cwBody:Code:=Tryz.f12.body.getD .skip
noncomputable def cwC1:Code:=gFst (gSnd cwBody)
noncomputable def qcw4:{x:Array Oper // x=gOps (gFst (gSnd (gSnd cwBody)))}:=⟨_,by (simp only [cwBody,gFst,gSnd,gOps,Tryz.f12,Option.getD_some];rfl)⟩
noncomputable def cO4:Array Oper:=qcw4.1
theorem cwBody_eq:cwBody = .seq (gFst cwBody) (.seq cwC1 (.seq (.region 4 cO4 true) .ret)):=by kernel_rfl
theorem cO4_size:cO4.size=9:=by kernel_rfl
theorem sfCw:∃ fn,Tryz.prog.funcs[12]? = some fn:=⟨_,Tryz.func12⟩
theorem tame_man:tameQ.contains 26=true:=by decide
def T4 (f:Nat→Value) (pc:Nat) (vs vN vS vm:Value) (b0 b1 b2 b3 b4 b5:Bool):Array Value:=#[f 0,.pointer (some ⟨pc,0,none⟩),f 2,f 3,f 4,f 5,f 6,f 7,f 8,f 9,(if b0 then vs else f 10),(if b1 then .pointer (some ⟨pc,4,none⟩) else f 11),(if b2 then vN else f 12),(if b3 then .pointer (some ⟨pc,5,none⟩) else f 13),(if b4 then vS else f 14),(if b5 then vm else f 15),f 16]
theorem t4_mk {pc:Nat} {T:Array Value} (h:T = #[T.getD 0 undef,.pointer (some ⟨pc,0,none⟩),T.getD 2 undef,T.getD 3 undef,T.getD 4 undef,T.getD 5 undef,T.getD 6 undef,T.getD 7 undef,T.getD 8 undef,T.getD 9 undef,T.getD 10 undef,T.getD 11 undef,T.getD 12 undef,T.getD 13 undef,T.getD 14 undef,T.getD 15 undef,T.getD 16 undef]) (vs vN vS vm:Value):T=T4 (fun i=>T.getD i undef) pc vs vN vS vm false false false false false false:=h
def DC4 (b1 b2 b3 b4 b5:Bool):Prop:=(b2=true→b1=true)∧(b4=true→b3=true)∧(b5=true→b2=true∧b4=true)
section
variable {X:Nat→Prop} {Y:Nat→Option Obj} {D:Nat→World→Array Event→Prop} {Stop:Goroutine→World→Prop} {cs:List Frame}
theorem bits_readyW (b0 b1 b2 b3 b4 b5:Bool):Region.ready .any cO4 #[b0,b1,b2,b3,b4,b5,false,false,false]≠[]:=by
  have mem:∀ i o,cO4[i]? = some o→(#[b0,b1,b2,b3,b4,b5,false,false,false]:Array Bool).getD i true=false→(∀ e∈o.after,(#[b0,b1,b2,b3,b4,b5,false,false,false]:Array Bool).getD e.on false=true)→Region.ready .any cO4 #[b0,b1,b2,b3,b4,b5,false,false,false]≠[]:=fun i o ho h1 h2 e=>by
    have:=mem_ready (md:=.any).2 ⟨h1,o,ho,fun e he _=>h2 e he⟩
    rw [e] at this
    cases this
  cases b0
  · exact mem 0 _ (by simp only [cO4,qcw4];rfl) rfl (by simp)
  cases b1
  · exact mem 1 _ (by simp only [cO4,qcw4];rfl) rfl (by simp)
  cases b2
  · exact mem 2 _ (by simp only [cO4,qcw4];rfl) rfl (by simp)
  cases b3
  · exact mem 3 _ (by simp only [cO4,qcw4];rfl) rfl (by simp)
  cases b4
  · exact mem 4 _ (by simp only [cO4,qcw4];rfl) rfl (by simp)
  cases b5
  · exact mem 5 _ (by simp only [cO4,qcw4];rfl) rfl (by simp)
  · exact mem 6 _ (by simp only [cO4,qcw4];rfl) rfl (by simp)
theorem left_ofW (t:Nat):Region.linearise.go .any cO4 2 t #[true,true,true,true,true,true,true,false,false] []=[7,8]:=by
  have r1:Region.ready .any cO4 #[true,true,true,true,true,true,true,false,false]=[7]:=by kernel_rfl
  have r2:Region.ready .any cO4 #[true,true,true,true,true,true,true,true,false]=[8]:=by kernel_rfl
  obtain ⟨i,t',hi,e⟩:=go_succ (ops:=cO4) (0+1) t #[true,true,true,true,true,true,true,false,false] (by rw [r1];simp)
  rw [r1] at hi
  simp at hi
  subst hi
  obtain ⟨i2,t2,hi2,e2⟩:=go_succ (ops:=cO4) 0 t' #[true,true,true,true,true,true,true,true,false] (by rw [r2];simp)
  rw [r2] at hi2
  simp at hi2
  subst hi2
  show Region.linearise.go .any cO4 (0+1+1) t #[true,true,true,true,true,true,true,false,false] []=_
  rw [e]
  show 7 :: Region.linearise.go .any cO4 (0+1) t' #[true,true,true,true,true,true,true,true,false] []=_
  rw [e2]
  rfl
set_option maxHeartbeats 8000000 in
set_option maxRecDepth 100000 in
theorem any_orderW (hD:Dok X D) {f:Nat→Value} {pc:Nat} {x0 x1 x2 x3 vN vS vC:Value} {v0:World} {l:List UInt8} (hr:RowAt v0 pc [x0,x1,x2,x3,vN,vS,vC] 36)
    (h1:∀ x∈[x0,x1,x2,x3],∃ n,x = .int .i64 n) (hN:∃ a n c,vN = .slice a n c) (hS:∃ a n c,vS = .slice a n c) (hC:∃ a n c,vC = .slice a n c)
    (hman:∀ τ d,Calls Tryz.prog 26 #[vN,vS] { v0 with tape:=τ,drawn:=d } fun r w'=>Bel v0.heap.size v0 w' ∧ ∃ v,r = .returned v∧OwnB v0.heap.size w' v l)
    (hnext:∀ (T:Array Value) (vm:Value) (v:World),Bel v0.heap.size v0 v→OwnB v0.heap.size v vm l→T.size=17→ReaR Tryz.prog X Y D Stop none [] 12 cs (.inRegion cO4 [6,7,8] :: [.code .ret]) (T4 (fun i=>T.getD i undef) pc (.agg #[x0,x1,x2,x3,vN,vS,vC]) vN vS vm true true true true true true) v) :
    ∀ (fuel t:Nat) (b0 b1 b2 b3 b4 b5:Bool) (vm:Value) (v:World),fuel=3+(!b0).toNat+(!b1).toNat+(!b2).toNat+(!b3).toNat+(!b4).toNat+(!b5).toNat→DC4 b1 b2 b3 b4 b5→J5 v0 l b5 vm v →
      ReaI Tryz.prog X Y D Stop 12 cs (.inRegion cO4 (Region.linearise.go .any cO4 fuel t #[b0,b1,b2,b3,b4,b5,false,false,false] []) :: [.code .ret]) ⟨T4 f pc (.agg #[x0,x1,x2,x3,vN,vS,vC]) vN vS vm b0 b1 b2 b3 b4 b5,[]⟩ v:=by
  obtain ⟨n0,rfl⟩:=h1 x0 (by simp)
  obtain ⟨n1,rfl⟩:=h1 x1 (by simp)
  obtain ⟨n2,rfl⟩:=h1 x2 (by simp)
  obtain ⟨n3,rfl⟩:=h1 x3 (by simp)
  obtain ⟨aN,nN,cN,rfl⟩:=hN
  obtain ⟨aS,nS,cS,rfl⟩:=hS
  obtain ⟨aC,nC,cC,rfl⟩:=hC
  clear h1
  intro fuel
  induction fuel with
  | zero=>intro t b0 b1 b2 b3 b4 b5 vm v hf;omega
  | succ fuel ih=>
    intro t b0 b1 b2 b3 b4 b5 vm v hf hC hJ
    obtain ⟨i,t',hi,e⟩:=go_succ (ops:=cO4) fuel t _ (bits_readyW b0 b1 b2 b3 b4 b5)
    rw [e]
    obtain ⟨h1,o,ho,hall⟩:=mem_ready.1 hi
    have hb:=hJ.bel
    have hlt:i < 9:=by rw [← cO4_size];exact (Array.getElem?_eq_some_iff.1 ho).1
    have hrv:∀ z:World,z.heap=v.heap→RowAt z pc [.int .i64 n0,.int .i64 n1,.int .i64 n2,.int .i64 n3,.slice aN nN cN,.slice aS nS cS,.slice aC nC cC] 36:=fun z hz=>by
      show z.heap[pc]? = _
      rw [hz]
      exact (hb.blk hr.lt).trans hr
    match i,hlt with
    | 0,_=>
      obtain rfl:b0=false:=h1
      refine reaR_op goodF hD (.agg #[.int .i64 n0,.int .i64 n1,.int .i64 n2,.int .i64 n3,.slice aN nN cN,.slice aS nS cS,.slice aC nC cC]) (by simp only [cO4,qcw4];rfl) rfl (by kernel_rfl) (fun z hz=>by
        have hrz:=hrv z hz
        have c0:=hrz.cell (i:=0) rfl
        have c1:=hrz.cell (i:=1) rfl
        have c2:=hrz.cell (i:=2) rfl
        have c3:=hrz.cell (i:=3) rfl
        have c4:=hrz.cell (i:=4) rfl
        have c5:=hrz.cell (i:=5) rfl
        have c6:=hrz.cell (i:=6) rfl
        unfold T4
        go_simp) ?_
      exact ih t' true b1 b2 b3 b4 b5 vm v (by simp at hf ⊢;omega) hC hJ
    | 1,_=>
      obtain rfl:b1=false:=h1
      refine reaR_op goodF hD (.pointer (some ⟨pc,4,none⟩)) (by simp only [cO4,qcw4];rfl) rfl (by kernel_rfl) (fun z _=>by unfold T4;go_simp) ?_
      exact ih t' b0 true b2 b3 b4 b5 vm v (by simp at hf ⊢;omega) ⟨fun h=>rfl,hC.2⟩ hJ
    | 2,_=>
      obtain rfl:b2=false:=h1
      obtain rfl:b1=true:=by
        simp only [cO4,qcw4] at ho
        cases ho
        exact hall _ (List.mem_toArray.2 (List.mem_singleton.2 rfl)) rfl
      refine reaR_op goodF hD (.slice aN nN cN) (by simp only [cO4,qcw4];rfl) rfl (by kernel_rfl) (fun z hz=>by
        have c4:=(hrv z hz).cell (i:=4) rfl
        unfold T4
        go_simp) ?_
      exact ih t' b0 true true b3 b4 b5 vm v (by simp at hf ⊢;omega) ⟨fun h=>rfl,hC.2.1,fun h=>⟨rfl,(hC.2.2 h).2⟩⟩ hJ
    | 3,_=>
      obtain rfl:b3=false:=h1
      refine reaR_op goodF hD (.pointer (some ⟨pc,5,none⟩)) (by simp only [cO4,qcw4];rfl) rfl (by kernel_rfl) (fun z _=>by unfold T4;go_simp) ?_
      exact ih t' b0 b1 b2 true b4 b5 vm v (by simp at hf ⊢;omega) ⟨hC.1,fun h=>rfl,hC.2.2⟩ hJ
    | 4,_=>
      obtain rfl:b4=false:=h1
      obtain rfl:b3=true:=by
        simp only [cO4,qcw4] at ho
        cases ho
        exact hall _ (List.mem_toArray.2 (List.mem_singleton.2 rfl)) rfl
      refine reaR_op goodF hD (.slice aS nS cS) (by simp only [cO4,qcw4];rfl) rfl (by kernel_rfl) (fun z hz=>by
        have c5:=(hrv z hz).cell (i:=5) rfl
        unfold T4
        go_simp) ?_
      exact ih t' b0 b1 b2 true true b5 vm v (by simp at hf ⊢;omega) ⟨hC.1,fun h=>rfl,fun h=>⟨(hC.2.2 h).1,rfl⟩⟩ hJ
    | 5,_=>
      obtain rfl:b5=false:=h1
      have hal:b2=true∧b4=true:=by
        simp only [cO4,qcw4] at ho
        cases ho
        exact ⟨hall ⟨2,.data⟩ (by simp) rfl,hall ⟨4,.data⟩ (by simp) rfl⟩
      obtain ⟨rfl,rfl⟩:=hal
      obtain ⟨_,rfl⟩ | ⟨h,_⟩:=hJ
      · refine reaI_calls goodP hD (bodyP tame_man (by kernel_rfl)) (R:=fun y w'=>Bel v.heap.size v w' ∧ OwnB v.heap.size w' y l) (by simp only [cO4,qcw4];rfl) rfl (by rfl) (vs:=#[.slice aN nN cN,.slice aS nS cS]) (by simp [Act.eval,T4]) (Nat.le_of_ble_eq_true (by kernel_rfl)) (fun τ d=>(hman τ d).mono (by
          rintro r w' ⟨h1,y,rfl,h2⟩
          exact ⟨y,rfl,h1,h2⟩)) fun y v' hy => ?_
        exact ih t' b0 b1 true b3 true true y v' (by simp at hf ⊢;omega) ⟨hC.1,hC.2.1,fun h=>⟨rfl,rfl⟩⟩ (.inr ⟨rfl,hy.1,hy.2⟩)
      · cases h
    | 6,_=>
      have hal:b0=true∧b5=true:=by
        simp only [cO4,qcw4] at ho
        cases ho
        exact ⟨hall ⟨0,.data⟩ (by simp) rfl,hall ⟨5,.data⟩ (by simp) rfl⟩
      obtain ⟨rfl,rfl⟩:=hal
      obtain ⟨rfl,rfl⟩:=hC.2.2 rfl
      obtain rfl:=hC.1 rfl
      obtain rfl:=hC.2.1 rfl
      obtain ⟨h,_⟩ | ⟨_,hb,hO⟩:=hJ
      · cases h
      · obtain rfl:fuel=2:=by simpa using hf
        have:=hnext (T4 f pc (.agg #[.int .i64 n0,.int .i64 n1,.int .i64 n2,.int .i64 n3,.slice aN nN cN,.slice aS nS cS,.slice aC nC cC]) (.slice aN nN cN) (.slice aS nS cS) vm true true true true true true) vm v hb hO rfl
        show ReaI _ _ _ _ _ _ _ (.inRegion cO4 (6 :: Region.linearise.go .any cO4 2 t' #[true,true,true,true,true,true,true,false,false] []) :: _) _ _
        rw [left_ofW]
        exact this
    | 7,_=>
      simp only [cO4,qcw4] at ho
      cases ho
      have:=hall ⟨6,.data⟩ (by simp) rfl
      cases this
    | 8,_=>
      simp only [cO4,qcw4] at ho
      cases ho
      have:=hall ⟨7,.chain⟩ (by simp) rfl
      cases this
theorem rea_T4 {f:FuncId} {k:List Item} {v:World} {pc:Nat} (vs vN vS vm:Value) {T:Array Value} (h:T = #[T.getD 0 undef,.pointer (some ⟨pc,0,none⟩),T.getD 2 undef,T.getD 3 undef,T.getD 4 undef,T.getD 5 undef,T.getD 6 undef,T.getD 7 undef,T.getD 8 undef,T.getD 9 undef,T.getD 10 undef,T.getD 11 undef,T.getD 12 undef,T.getD 13 undef,T.getD 14 undef,T.getD 15 undef,T.getD 16 undef]) (hr:∀ g,ReaI Tryz.prog X Y D Stop f cs k ⟨T4 g pc vs vN vS vm false false false false false false,[]⟩ v):ReaI Tryz.prog X Y D Stop f cs k ⟨T,[]⟩ v:=by
  have:=hr (fun i=>T.getD i undef)
  rwa [← t4_mk h vs vN vS vm] at this
theorem Lies.bel {w w':World} {v:Value} {xs:List Value} (h:Lies w v xs) (hb:Bel w.heap.size w w'):Lies w' v xs:=Lies.below (w:={ w with tape:=w'.tape }) h hb
theorem Sh.In.bel {s:Sh} {w w':World} {vN vS vC:Value} (h:s.In w vN vS vC) (hb:Bel w.heap.size w w'):s.In w' vN vS vC:=⟨h.names.bel hb,h.sizes.bel hb,h.col.bel hb,h.nl,h.zl,h.cl,h.ml⟩
theorem bel_kept {w w':World} (h:Bel w.heap.size w w'):Kept w w':=⟨h.os,h.output,h.size,h.block⟩
set_option maxHeartbeats 8000000 in
set_option maxRecDepth 100000 in
theorem cwriteI_nat (hD:Dok X D) {cfr:Frame} (k n i c:Nat) (hk:k≤128) (hn:n≤128) (hi:i≤128) (hc1:1≤c) (hc2:c≤65536) (ns:List (List UInt8)) (zs:List Int) (col:List UInt8) (H2:Hid (ListOk ns zs)) (hnl:ns.length≤1000) (htt:tot zs≤65536) (hcl:col.length≤65536) (vN vS vC:Value) (v:World) (h:(Sh.mk k n i c ns zs col).In v vN vS vC) (he:(Sh.mk k n i c ns zs col).err=0) (hT:Tab v)
    (hnext:∀ y v',OwnB v.heap.size v' y (wrB (Sh.mk k n i c ns zs col))→Kept v v' → ∀ w,SimT X Y w v' → GoesI Tryz.prog D Stop (G (cfr.finish (.tuple #[y,.int .i64 0])) cs) w) :
    ReaI Tryz.prog X Y D Stop 12 (cfr :: cs) [.code cwBody] ⟨#[shV (Sh.mk k n i c ns zs col) vN vS vC]++Array.replicate 16 undef,[]⟩ v:=by
  obtain ⟨bc,capc,rfl,hcapc,_⟩:=id h.col
  obtain ⟨bN,capN,rfl,_,_⟩:=id h.names
  obtain ⟨bS,capS,rfl,_,_⟩:=id h.sizes
  rw [u8V_length] at *
  rw [nameV_length] at *
  rw [intV_length] at *
  rw [cwBody_eq]
  simp only [Array.replicate_succ,Array.replicate_zero,List.push_toArray,List.append_toArray,List.nil_append,List.cons_append]
  refine reachI_go goodP hD (by kernel_rfl) rfl sfCw fun R hR τ d => ?_
  have bl:Bel v.heap.size v { v with tape:=τ,drawn:=d }:=(Bel.refl _ v).tp τ d
  generalize ({ v with tape:=τ,drawn:=d }:World)=vA at bl ⊢
  have hrA:=RowAt.made vA [.int .i64 (k:Int),.int .i64 (n:Int),.int .i64 (i:Int),.int .i64 (c:Int),.slice bN ns.length capN,.slice bS zs.length capS,.slice bc col.length capc] 36
  have bl1:=bl.trans (Bel.of ((Below.refl vA.heap.size vA).alloc (Nat.le_refl _) (.cells #[.int .i64 (k:Int),.int .i64 (n:Int),.int .i64 (i:Int),.int .i64 (c:Int),.slice bN ns.length capN,.slice bS zs.length capS,.slice bc col.length capc] 36))) bl.size'
  unfold shV
  simp only [gFst,cwBody,Tryz.f12,Option.getD_some]
  go_wp2
  generalize ePc:vA.heap.size=pc at hrA ⊢
  generalize vA.alloc (.cells #[.int .i64 (k:Int),.int .i64 (n:Int),.int .i64 (i:Int),.int .i64 (c:Int),.slice bN ns.length capN,.slice bS zs.length capS,.slice bc col.length capc] 36)=v1 at hrA bl1 ⊢
  clear ePc bl
  refine reachI_go goodP hD (by kernel_rfl) rfl sfCw fun R hR τ d => ?_
  replace hrA:RowAt ({ v1 with tape:=τ,drawn:=d }:World) pc [.int .i64 (k:Int),.int .i64 (n:Int),.int .i64 (i:Int),.int .i64 (c:Int),.slice bN ns.length capN,.slice bS zs.length capS,.slice bc col.length capc] 36:=hrA
  replace bl1:=bl1.tp τ d
  generalize ({ v1 with tape:=τ,drawn:=d }:World)=v1 at hrA bl1 ⊢
  have hI:=h.bel bl1
  have K1:=check_any _ _ _ _ _ hI
  rw [he] at K1
  unfold shV at K1
  simp only at K1
  have c0:=hrA.cell (i:=0) rfl
  have c1:=hrA.cell (i:=1) rfl
  have c2:=hrA.cell (i:=2) rfl
  have c3:=hrA.cell (i:=3) rfl
  have c4:=hrA.cell (i:=4) rfl
  have c5:=hrA.cell (i:=5) rfl
  have c6:=hrA.cell (i:=6) rfl
  simp only [cwC1,gFst,gSnd,cwBody,Tryz.f12,Option.getD_some]
  go_wp2_with (first | (go_at_call 24;(with_reducible refine K1.mono ?_);rintro r v2 ⟨rfl,hb2⟩))
  clear K1 c0 c1 c2 c3 c4 c5 c6
  have bl2:=bl1.trans (Bel.of hb2) bl1.size'
  have hr2:=hrA.later (S:=fun _=>False) (.of_below hb2) hrA.lt id
  clear hb2 hrA hI bl1
  have hI2:=h.bel bl2
  have hT2:=(bel_kept bl2).tab hT
  refine reachI_split hD rfl (reaI_draw hD fun t => ?_)
  rw [order_any mixedA,cO4_size]
  have kman:∀ τ dd,Calls Tryz.prog 26 #[.slice bN ns.length capN,.slice bS zs.length capS] { v2 with tape:=τ,drawn:=dd } fun r w'=>Bel v2.heap.size v2 w' ∧ ∃ u,r = .returned u∧OwnB v2.heap.size w' u (sealB (manTo ns zs ns.length)):=fun τ dd=>
    (manifest_any (.slice bN ns.length capN) (.slice bS zs.length capS) ns zs H2.out hnl htt { v2 with tape:=τ,drawn:=dd } (hI2.names.heap rfl) (hI2.sizes.heap rfl) (hT2.heap rfl)).mono fun r w' ⟨u,h1,h2,h3⟩=>⟨⟨h3.os,rfl,h3.output,h3.size,h3.block⟩,u,h1,h2⟩
  refine rea_T4 (pc:=pc) (.agg #[.int .i64 (k:Int),.int .i64 (n:Int),.int .i64 (i:Int),.int .i64 (c:Int),.slice bN ns.length capN,.slice bS zs.length capS,.slice bc col.length capc]) (.slice bN ns.length capN) (.slice bS zs.length capS) undef rfl fun g => ?_
  refine any_orderW hD (f:=g) hr2 (by simp) ⟨_,_,_,rfl⟩ ⟨_,_,_,rfl⟩ ⟨_,_,_,rfl⟩ kman (fun T vm u hb hO _ => ?_) 9 t false false false false false false undef v2 rfl ⟨(fun h=>by cases h),(fun h=>by cases h),(fun h=>by cases h)⟩ (.inl ⟨rfl,rfl⟩)
  have bl3:=bl2.trans hb bl2.size'
  have hcol3:=(h.bel bl3).col
  have hT3:=(bel_kept bl3).tab hT
  simp only at hcol3
  have hml:(sealB (manTo ns zs ns.length)).length=manN ns+8:=by rw [sealB_length,manTo_len,manNto_all]
  have hmb:manN ns+8≤1000000:=by
    have:=manNto_le ns H2.out.2.1 ns.length (Nat.le_refl _)
    rw [manNto_all] at this
    omega
  obtain ⟨gm,cm,rfl,_,hgm0,hgm,_,hmbt⟩:=owns_byt hO (by omega)
  unfold T4
  simp only [if_true]
  refine reaR_call hD (by simp only [cO4,qcw4];rfl) rfl (by rfl) Tryz.func25 (by kernel_rfl) (c:=wBody) (by kernel_rfl) (vs:=#[.agg #[.int .i64 (k:Int),.int .i64 (n:Int),.int .i64 (i:Int),.int .i64 (c:Int),.slice bN ns.length capN,.slice bS zs.length capS,.slice bc col.length capc],.slice (some ⟨gm,0,none⟩) (sealB (manTo ns zs ns.length)).length cm]) (n:=51) (by simp [Act.eval]) (by kernel_rfl) ?_
  refine layWriteI hD k n i c (by omega) (by omega) (by omega) hc1 hc2 (.slice bN ns.length capN) (.slice bS zs.length capS) bc col.length capc col rfl hcl gm cm _ (sealB (manTo ns zs ns.length)) rfl (by omega) (by omega) hcol3 hmbt hgm hT3 fun y v4 hO4 hK4 => ?_
  rw [Dn_finish (by simp only [cO4,qcw4];rfl)]
  show ReaR _ _ _ _ _ _ _ _ _ _ _ _
  walk_nrm
  refine reaR_op goodF hD y (by simp only [cO4,qcw4];rfl) rfl (by kernel_rfl) (fun z _=>by go_simp) ?_
  walk_nrm
  refine reaR_op goodF hD (.int .i64 0) (by simp only [cO4,qcw4];rfl) rfl (by kernel_rfl) (fun z _=>by go_simp) ?_
  walk_nrm
  refine reaR_endReg hD ?_
  refine reaI_ret (a:=⟨_,[]⟩) hD rfl Tryz.func12 (fun τ d=>results_tmp2 (fn:=Tryz.f12) (t:=2) (u:=3) rfl _ _ _) ?_
  refine hnext y v4 ?_ ((bel_kept bl3).trans hK4)
  have e:sealB ([67,65,73,82,78,49]++([UInt8.ofNat k,UInt8.ofNat n,UInt8.ofNat i,0]++(leB 4 c++(leB 4 ((sealB (manTo ns zs ns.length)).length - 8)++(leB 4 col.length++[0,0])))))++sealB (manTo ns zs ns.length)++framesTo c col (nFr c col.length)++[68,79,78,69]=wrB (Sh.mk k n i c ns zs col):=by
    unfold wrB headB manB
    simp only [Int.toNat_natCast]
    rw [b8_nat k (by omega),b8_nat n (by omega),b8_nat i (by omega),hml,manTo_len,manNto_all,Nat.add_sub_cancel]
  rw [e] at hO4
  exact hO4.base bl3.size'
theorem Sh.err_zero {s:Sh} (h1:s.Fine) (h2:s.Listed) (h3:s.Few) (h4:s.Long) (h5:¬ s.Bad):s.err=0:=by
  unfold Sh.err
  rw [if_neg (show ¬ ¬ s.Fine from fun x=>x h1),if_neg (show ¬ ¬ s.Listed from fun x=>x h2),if_neg (show ¬ ¬ s.Few from fun x=>x h3),if_neg (show ¬ ¬ s.Long from fun x=>x h4),if_neg h5]
theorem cwriteI (hD:Dok X D) {cfr:Frame} (s:Sh) (h1:s.Fine) (h2:s.Listed) (h3:s.Few) (h4:s.Long) (h5:¬ s.Bad) (vN vS vC:Value) (v:World) (h:s.In v vN vS vC) (hT:Tab v)
    (hnext:∀ y v',OwnB v.heap.size v' y (wrB s)→Kept v v' → ∀ w,SimT X Y w v' → GoesI Tryz.prog D Stop (G (cfr.finish (.tuple #[y,.int .i64 0])) cs) w) :
    ReaI Tryz.prog X Y D Stop 12 (cfr :: cs) [.code cwBody] ⟨#[shV s vN vS vC]++Array.replicate 16 undef,[]⟩ v:=by
  have he:=Sh.err_zero h1 h2 h3 h4 h5
  obtain ⟨K,N,I,C,ns,zs,col⟩:=s
  have f1:=h1.k1
  have f2:=h1.kn
  have f3:=h1.n1
  have f4:=h1.i0
  have f5:=h1.iN
  have f6:=h1.c1
  have f7:=h1.c2
  simp only at f1 f2 f3 f4 f5 f6 f7
  obtain ⟨k,rfl⟩:∃ k:Nat,K=k:=⟨K.toNat,by omega⟩
  obtain ⟨n,rfl⟩:∃ n:Nat,N=n:=⟨N.toNat,by omega⟩
  obtain ⟨i,rfl⟩:∃ i:Nat,I=i:=⟨I.toNat,by omega⟩
  obtain ⟨c,rfl⟩:∃ c:Nat,C=c:=⟨C.toNat,by omega⟩
  have h6:=h3.bytes
  have h7:col.length=lenC k (tot zs):=by simpa [Sh.Long] using h4
  have h8:=lenC_le (k:=k) (by omega) (tot zs)
  exact cwriteI_nat hD k n i c (by omega) (by omega) (by omega) (by omega) (by omega) ns zs col ((Sh.listed_iff _).1 h2) h3.blobs h6 (by simp only at h6;omega) vN vS vC v h he hT hnext
end
end Go.Proofs.YtkpcmfgeanlcnabGreatDoor
