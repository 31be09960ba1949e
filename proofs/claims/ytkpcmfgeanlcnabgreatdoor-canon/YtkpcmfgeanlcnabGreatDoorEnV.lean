/-
  layout.Write beside goroutines that leave: the whole of it.
-/
import Derived.Test.YtkpcmfgeanlcnabGreatDoorEnQ
import Derived.Test.YtkpcmfgeanlcnabGreatDoorSmB
namespace Go.Proofs.YtkpcmfgeanlcnabGreatDoor
open Go.RowKit Go.Deep Go.Lf Go.Conc
section
variable {X:Nat→Prop} {Y:Nat→Option Obj} {D:Nat→World→Array Event→Prop} {Stop:Goroutine→World→Prop} {v:World} {cs:List Frame} {cfr:Frame}
theorem fold44 (T:Array Value) (Df:Nat) (st:LoopState) (x:Value):((lpR T Df st).params.zip #[x]).foldl (fun tmps (t,a)=>tmps.setIfInBounds t a) (lpR T Df st).tmps=T.setIfInBounds 44 x:=by
  simp [lpR]
set_option maxHeartbeats 8000000 in
set_option maxRecDepth 100000 in
theorem layEnd (hD:Dok X D) {lb sb nb Df l len cap c row:Nat} {M col:List UInt8} {T:Array Value} {ba:Option Addr} (hTW:TWr row lb T) (hc:1≤c) (hc2:c≤65536) (hlen:len≤65536) (hM:M.length≤2000000)
    (hlb:v.heap.size < lb) (h1:lb < sb) (h2:sb < nb) (h3:nb < Df) (h4:Df < l) (hO:Ours X Y l) (hOD:Ours X Y Df) (W:World) (hI:LW v lb sb nb Df l ba len cap c M col T .ready (nFr c len) W)
    (hnext:∀ y v',OwnB v.heap.size v' y (M++framesTo c col (nFr c len)++[68,79,78,69])→Kept v v' → ∀ w,SimT X Y w v' → GoesI Tryz.prog D Stop (G (cfr.finish y) cs) w) :
    ReaR Tryz.prog X Y D Stop none [{ target:=.collected Df,args:=#[] }] 25 (cfr :: cs) [.endRangeFunc l,.inBlock 0,.code wRest] T W:=by
  obtain ⟨i0,hi0,hz0,hz1,hz2⟩:=info_parts infoB8
  refine reaR_endRange hD hI.lp rfl rfl hO ?_
  change ReaR _ _ _ _ _ _ _ _ _ _ _ (W.putObj l (.loop (lpR T Df .exhausted)))
  have hI1:=hI.put (st':=.exhausted) (by omega) (by omega) (by omega) (by omega) (by omega)
  clear hI
  generalize W.putObj l (.loop (lpR T Df .exhausted))=W1 at *
  obtain ⟨f,rfl⟩:=hTW
  rw [wRest_eq]
  refine reaR_inBlock hD (reaR_split hD (reaR_go goodF hD (by kernel_rfl) sfW fun R hR τ d => ?_))
  replace hI1:=hI1.tape τ d
  generalize ({ W1 with tape:=τ,drawn:=d }:World)=W2 at *
  obtain ⟨⟨y,hv,hO1⟩,_,_,_,hdf,hK⟩:=hI1
  have hLb:(M++framesTo c col (nFr c len)).length≤10000000000:=by
    have h5:(framesTo c col (nFr c len)).length≤nFr c len*(c+8):=by
      have:=LL_length [] c col (len:=len) ((List.range (nFr c len)).attach.map fun x=>⟨x.1,(nFr_lt hc).1 (List.mem_range.1 x.2)⟩)
      rw [LL_all [] c col _ (nFr c len) (by simp [List.map_map,Function.comp_def])] at this
      simpa using this
    have h6:nFr c len≤len+1:=by
      unfold nFr
      have:(len+c - 1) / c≤(len*c+c) / c:=Nat.div_le_div_right (by have:len*1≤len*c:=Nat.mul_le_mul_left _ hc;omega)
      rw [← Nat.succ_mul,Nat.mul_div_cancel _ (by omega)] at this
      omega
    have h7:nFr c len*(c+8)≤65537*(65536+8):=Nat.mul_le_mul (by omega) (by omega)
    rw [List.length_append]
    omega
  generalize M++framesTo c col (nFr c len)=L at *
  have hc0:=hv.cell
  simp only [wO9,qw9]
  go_wp2_with (first | (at_builtin;refine Lib.wpList_append_own_string _ rfl _ _ 33 9 rfl v.heap.size 5 i0 Tryz.underlying33 Tryz.underlying9 hi0 hz0 hz1 hz2 _ _ _ rfl hO1 ⟨#[68,79,78,69]⟩ rfl (by show _+4≤maxLen;unfold maxLen;omega) (by show _+4≤_;omega) hK.size ?_;intro v9 w9 hown9 hgrow9 _;have hO9:OwnB v.heap.size w9 v9 (L++[68,79,78,69]):=OwnB.more hown9 rfl;have hk9:=hO1.keeps hgrow9;have hK9:=hK.below (hO1.grown hgrow9 hK.size)))
  have hdf9:w9.heap[Df]? = some (.deferred (some [])):=hk9.same _ _ hdf rfl
  refine reaR_ret hD Tryz.func25 hdf9 hOD (fun τ d=>results_tmp (fn:=Tryz.f25) (t:=4) rfl _ _ _) ?_
  exact hnext v9 _ (ownsRow_putObj hO9 _ hdf9 rfl) ⟨hK9.os,hK9.output,by rw [World.putObj_size];exact hK9.size,fun b hb=>(World.putObj_heap_other (by omega)).trans (hK9.block b hb)⟩
set_option maxHeartbeats 8000000 in
set_option maxRecDepth 100000 in
theorem layWriteI (hD:Dok X D) (k n i c:Nat) (hk:k≤255) (hn:n≤255) (hi:i≤255) (hc:1≤c) (hc2:c≤65536) (vN vS:Value) (bc:Option Addr) (len capc:Nat) (col:List UInt8) (hcl:col.length=len) (hlen:len≤65536) (gm capm ml:Nat) (man:List UInt8) (hml:man.length=ml) (hm8:8≤ml) (hm:ml≤1000000)
    (hcol:Lies v (.slice bc len capc) (u8V col)) (hman:Byt v gm 0 man) (hgm:gm < v.heap.size) (hT:Tab v)
    (hnext:∀ y v',OwnB v.heap.size v' y (sealB ([67,65,73,82,78,49]++([UInt8.ofNat k,UInt8.ofNat n,UInt8.ofNat i,0]++(leB 4 c++(leB 4 (ml - 8)++(leB 4 len++[0,0])))))++man++framesTo c col (nFr c len)++[68,79,78,69])→Kept v v' → ∀ w,SimT X Y w v' → GoesI Tryz.prog D Stop (G (cfr.finish y) cs) w) :
    ReaR Tryz.prog X Y D Stop none [] 25 (cfr :: cs) [.code wBody] (#[.agg #[.int .i64 (k:Int),.int .i64 (n:Int),.int .i64 (i:Int),.int .i64 (c:Int),vN,vS,.slice bc len capc],.slice (some ⟨gm,0,none⟩) ml capm]++Array.replicate 51 undef) v:=by
  obtain ⟨b,off,hba,hby⟩:∃ b off,(0 < len→bc=some ⟨b,off,none⟩)∧Byt v b off col:=by
    obtain ⟨ba,cap',e,_,hh⟩:=hcol
    injection e with e1 e2 e3
    subst e1
    rcases Nat.eq_zero_or_pos len with h0 | h0
    · exact ⟨0,0,fun h=>by omega,fun j hj=>by omega⟩
    · obtain ⟨b,off,e4,_⟩:=hh 0 _ (u8V_get (by omega))
      refine ⟨b,off,fun _=>e4,fun j hj => ?_⟩
      obtain ⟨b',off',e5,h5⟩:=hh j _ (u8V_get hj)
      rw [e4] at e5
      injection e5 with e5
      injection e5 with e6 e7
      subst e6 e7
      exact h5
  have hcapc:len≤capc:=by
    obtain ⟨ba,cap',e,h,_⟩:=hcol
    injection e with e1 e2 e3
    rw [u8V_length] at h
    omega
  refine layW_pre hD k n i c hk hn hi hc hc2 vN vS bc len capc hlen gm capm ml man hml hm8 hm hman hgm hT fun T lb g4 cap4 V hTW hlb hlbV hL hO hrow hK => ?_
  obtain ⟨M,eM⟩:∃ M,sealB ([67,65,73,82,78,49]++([UInt8.ofNat k,UInt8.ofNat n,UInt8.ofNat i,0]++(leB 4 c++(leB 4 (ml - 8)++(leB 4 len++[0,0])))))++man=M:=⟨_,rfl⟩
  have hMl:M.length≤2000000:=by
    rw [← eM,List.length_append,sealB_length,hml]
    simp only [List.length_append,leB_length,List.length_cons,List.length_nil]
    omega
  rw [eM] at hnext hO
  clear eM
  rw [wC5_eq]
  refine reaR_split hD (reaR_region hD ?_)
  rw [wO5_size]
  simp only [List.range,List.range.loop]
  obtain ⟨f,rfl⟩:=hTW
  refine reaR_op goodF hD (.pointer (some ⟨v.heap.size,6,none⟩)) (by simp only [wO5,qw5];rfl) rfl (by kernel_rfl) (fun z _=>by go_simp) ?_
  walk_nrm
  refine reaR_op goodF hD (.slice bc len capc) (by simp only [wO5,qw5];rfl) rfl (by kernel_rfl) (fun z hz=>by have c6:=RowAt.cell (w:=z) (show z.heap[v.heap.size]? = _ by rw [hz];exact hrow) (i:=6) rfl;go_simp) ?_
  walk_nrm
  refine reaR_op goodF hD (.pointer (some ⟨v.heap.size,3,none⟩)) (by simp only [wO5,qw5];rfl) rfl (by kernel_rfl) (fun z _=>by go_simp) ?_
  walk_nrm
  refine reaR_op goodF hD (.int .i64 (c:Int)) (by simp only [wO5,qw5];rfl) rfl (by kernel_rfl) (fun z hz=>by have c3:=RowAt.cell (w:=z) (show z.heap[v.heap.size]? = _ by rw [hz];exact hrow) (i:=3) rfl;go_simp) ?_
  walk_nrm
  refine reaR_call hD (by simp only [wO5,qw5];rfl) rfl (by rfl) Tryz.func48 (by kernel_rfl) (c:=hBody) (by kernel_rfl) (vs:=#[.slice bc len capc,.int .i64 (c:Int)]) (n:=7) (by simp [Act.eval]) (by kernel_rfl) ?_
  refine chunkI hD bc len capc c hc ?_
  rw [Dn_finish (by simp only [wO5,qw5];rfl)]
  show ReaR _ _ _ _ _ _ _ _ _ _ _ _
  walk_nrm
  have hL2:=(hL.alloc (.cells #[.slice bc len capc] 33)).alloc (.cells #[.int .i64 (c:Int)] 3)
  have hO2:=(hO.alloc (.cells #[.slice bc len capc] 33)).alloc (.cells #[.int .i64 (c:Int)] 3)
  have hS2:=(Boxed.new V 33 (.slice bc len capc)).alloc (.cells #[.int .i64 (c:Int)] 3)
  have hN2:=Boxed.new (V.alloc (.cells #[.slice bc len capc] 33)) 3 (.int .i64 (c:Int))
  have hK2:Kept v ((V.alloc (.cells #[.slice bc len capc] 33)).alloc (.cells #[.int .i64 (c:Int)] 3)):=hK.below (((Below.refl v.heap.size V).alloc hK.size _).alloc (by rw [World.size_alloc];have:=hK.size;omega) _)
  have hs2:((V.alloc (.cells #[.slice bc len capc] 33)).alloc (.cells #[.int .i64 (c:Int)] 3)).heap.size=V.heap.size+2:=by simp
  rw [World.size_alloc] at hN2
  generalize (V.alloc (.cells #[.slice bc len capc] 33)).alloc (.cells #[.int .i64 (c:Int)] 3)=V2 at *
  refine reaR_endReg hD (reaR_block hD (reaR_range hD (gf:=71) (lb:=#[.pointer (some ⟨V.heap.size,0,none⟩),.pointer (some ⟨V.heap.size+1,0,none⟩)]) (fun fr h=>by simp only [Frame.eval,h];rfl) Tryz.func71 (by kernel_rfl) (c:=kBody) (by kernel_rfl) fun hOD hOl => ?_))
  have en:Tryz.f71.ntmps - (1+(#[.pointer (some ⟨V.heap.size,0,none⟩),.pointer (some ⟨V.heap.size+1,0,none⟩)]:Array Value).size)=28:=by rw [Tryz.ntmps71];rfl
  rw [en]
  refine chunk1_start hD _ _ _ fun T1 hT1 => ?_
  have hI0:∀ T',LW v lb V.heap.size (V.heap.size+1) V2.heap.size (V2.heap.size+1) bc len capc c M col T' .ready 0 ((V2.alloc (.deferred (some []))).alloc (.loop (lpR T' V2.heap.size .ready))):=fun T'=>by
    refine ⟨⟨_,(hL2.alloc _).alloc _,?_⟩,(hS2.alloc _).alloc _,(hN2.alloc _).alloc _,?_,?_,hK2.below (((Below.refl v.heap.size V2).alloc hK2.size _).alloc (by rw [World.size_alloc];have:=hK2.size;omega) _)⟩
    · have:=(hO2.alloc (.deferred (some []))).alloc (.loop (lpR T' V2.heap.size .ready))
      simpa [framesTo] using this
    · have:=World.alloc_heap_new (V2.alloc (.deferred (some []))) (.loop (lpR T' V2.heap.size .ready))
      rwa [World.size_alloc] at this
    · exact (Below.heap_alloc _ _ _ (by simp)).trans (World.alloc_heap_new V2 _)
  refine chunk1I hD (V2.heap.size+1) V.heap.size (V.heap.size+1) b off len capc c hc hc2 (by omega) hcapc bc hba (lpR _ V2.heap.size .ready) rfl hOl (LW v lb V.heap.size (V.heap.size+1) V2.heap.size (V2.heap.size+1) bc len capc c M col _ .ready) (fun j W h=>⟨h.s,h.n,h.lp⟩) (fun j W τ d h=>h.tape τ d) (fun j W cfr cs hj hI hnx => ?_) (fun W hI => ?_) (nFr c len) 0 T1 _ (by omega) (by rw [Nat.zero_mul];exact hT1) (hI0 _)
  · rw [fold44]
    exact layRound hD (twr_mk rfl) hc hc2 hlen hcl hMl hT hby hlb (by omega) (by omega) (by omega) (by omega) hOl j W hj hI hnx
  · rw [Dn_finish_range]
    exact layEnd hD (twr_mk rfl) hc hc2 hlen hMl hlb (by omega) (by omega) (by omega) (by omega) hOl hOD W hI hnext
end
end Go.Proofs.YtkpcmfgeanlcnabGreatDoor
namespace Go.Proofs.YtkpcmfgeanlcnabGreatDoor
open Go.RowKit Go.Deep Go.Lf Go.Conc Go.Hp
noncomputable def aBody:Code:=Tryz.f20.body.getD .skip
noncomputable def aC6:Code:=gFst (gSnd (gSnd (gSnd (gSnd (gSnd aBody)))))
noncomputable def aRest:Code:=gSnd (gSnd (gSnd (gSnd (gSnd (gSnd aBody)))))
noncomputable def aLoop:Code:=gIn (gIn (gSnd aC6))
noncomputable def qa6:{x:Array Oper // x=gOps (gFst aC6)}:=⟨_,by (simp only [aC6,aBody,gFst,gSnd,gOps,Tryz.f20,Option.getD_some];rfl)⟩
noncomputable def aO6:Array Oper:=qa6.1
theorem aC6_eq:aC6 = .seq (.region 6 aO6 true) (.block 0 (.loop aLoop)):=by kernel_rfl
theorem aO6_size:aO6.size=9:=by kernel_rfl
theorem mixedA:Tryz.prog.follows .mixedOrders=true:=by kernel_rfl
theorem sfA:∃ fn,Tryz.prog.funcs[20]? = some fn:=⟨_,Tryz.func20⟩
def T6 (f:Nat→Value) (pc K N:Nat) (vb vn vs vm vh vj:Value) (b0 b1 b2 b3 b4 b5 b8:Bool):Array Value:=#[vb,f 1,f 2,.pointer (some ⟨pc,0,none⟩),f 4,f 5,vn,vs,vm,vh,f 10,f 11,f 12,f 13,f 14,f 15,f 16,f 17,f 18,f 19,f 20,f 21,f 22,f 23,f 24,f 25,f 26,f 27,(if b0 then .pointer (some ⟨pc,0,none⟩) else f 28),(if b1 then .int .i64 ((K:Nat):Int) else f 29),(if b2 then .pointer (some ⟨pc,1,none⟩) else f 30),(if b3 then .int .i64 ((N:Nat):Int) else f 31),(if b4 then vb else f 32),(if b5 then vj else f 33),f 34,f 35,(if b8 then .int .i64 0 else f 36),f 37,f 38,f 39,f 40,f 41,f 42,f 43,f 44,f 45,f 46,f 47,f 48,f 49,f 50,f 51,f 52,f 53,f 54,f 55,f 56,f 57,f 58,f 59]
def TA (pc:Nat) (vn vs vm vh x:Value) (T:Array Value):Prop:=∃ f:Nat→Value,T = #[f 0,f 1,f 2,.pointer (some ⟨pc,0,none⟩),f 4,f 5,vn,vs,vm,vh,f 10,f 11,f 12,f 13,f 14,f 15,f 16,f 17,f 18,f 19,f 20,f 21,f 22,f 23,f 24,f 25,f 26,f 27,f 28,f 29,f 30,f 31,f 32,f 33,f 34,f 35,x,f 37,f 38,f 39,f 40,f 41,f 42,f 43,f 44,f 45,f 46,f 47,f 48,f 49,f 50,f 51,f 52,f 53,f 54,f 55,f 56,f 57,f 58,f 59]
theorem ta_mk {pc:Nat} {vn vs vm vh x:Value} {T:Array Value} (h:T = #[T.getD 0 undef,T.getD 1 undef,T.getD 2 undef,.pointer (some ⟨pc,0,none⟩),T.getD 4 undef,T.getD 5 undef,vn,vs,vm,vh,T.getD 10 undef,T.getD 11 undef,T.getD 12 undef,T.getD 13 undef,T.getD 14 undef,T.getD 15 undef,T.getD 16 undef,T.getD 17 undef,T.getD 18 undef,T.getD 19 undef,T.getD 20 undef,T.getD 21 undef,T.getD 22 undef,T.getD 23 undef,T.getD 24 undef,T.getD 25 undef,T.getD 26 undef,T.getD 27 undef,T.getD 28 undef,T.getD 29 undef,T.getD 30 undef,T.getD 31 undef,T.getD 32 undef,T.getD 33 undef,T.getD 34 undef,T.getD 35 undef,x,T.getD 37 undef,T.getD 38 undef,T.getD 39 undef,T.getD 40 undef,T.getD 41 undef,T.getD 42 undef,T.getD 43 undef,T.getD 44 undef,T.getD 45 undef,T.getD 46 undef,T.getD 47 undef,T.getD 48 undef,T.getD 49 undef,T.getD 50 undef,T.getD 51 undef,T.getD 52 undef,T.getD 53 undef,T.getD 54 undef,T.getD 55 undef,T.getD 56 undef,T.getD 57 undef,T.getD 58 undef,T.getD 59 undef]):TA pc vn vs vm vh x T:=⟨fun i=>T.getD i undef,h⟩
def Left (x:Value) (rest:List Nat):Prop:=(rest=[7]∧x = .int .i64 0)∨rest=[7,8]∨rest=[8,7]
noncomputable def frameA (T:Array Value) (rest:List Nat):Frame:=(base 20).at ⟨T,[]⟩ (.inRegion aO6 (6 :: rest) :: [.code (.block 0 (.loop aLoop)),.code aRest])
theorem tame_join:tame 37=true:=by decide
section
variable {X:Nat→Prop} {Y:Nat→Option Obj} {D:Nat→World→Array Event→Prop} {Stop:Goroutine→World→Prop} {cs:List Frame}
theorem bits_ready (b0 b1 b2 b3 b4 b5 b8:Bool):Region.ready .any aO6 #[b0,b1,b2,b3,b4,b5,false,false,b8]≠[]:=by
  have mem:∀ i o,aO6[i]? = some o→(#[b0,b1,b2,b3,b4,b5,false,false,b8]:Array Bool).getD i true=false→(∀ e∈o.after,(#[b0,b1,b2,b3,b4,b5,false,false,b8]:Array Bool).getD e.on false=true)→Region.ready .any aO6 #[b0,b1,b2,b3,b4,b5,false,false,b8]≠[]:=fun i o ho h1 h2 e=>by
    have:=mem_ready (md:=.any).2 ⟨h1,o,ho,fun e he _=>h2 e he⟩
    rw [e] at this
    cases this
  cases b0
  · exact mem 0 _ (by simp only [aO6,qa6];rfl) rfl (by simp)
  cases b1
  · exact mem 1 _ (by simp only [aO6,qa6];rfl) rfl (by simp)
  cases b2
  · exact mem 2 _ (by simp only [aO6,qa6];rfl) rfl (by simp)
  cases b3
  · exact mem 3 _ (by simp only [aO6,qa6];rfl) rfl (by simp)
  cases b4
  · exact mem 4 _ (by simp only [aO6,qa6];rfl) rfl (by simp)
  cases b5
  · exact mem 5 _ (by simp only [aO6,qa6];rfl) rfl (by simp)
  · exact mem 6 _ (by simp only [aO6,qa6];rfl) rfl (by simp)
def J5 (v0:World) (l:List UInt8) (b5:Bool) (vj:Value) (v:World):Prop:=(b5=false∧v=v0)∨(b5=true∧Bel v0.heap.size v0 v∧OwnB v0.heap.size v vj l)
theorem J5.bel {v0 v:World} {l:List UInt8} {b5:Bool} {vj:Value} (h:J5 v0 l b5 vj v):Bel v0.heap.size v0 v:=by
  rcases h with ⟨_,rfl⟩ | ⟨_,h,_⟩
  · exact Bel.refl _ _
  · exact h
def DC6 (b0 b1 b2 b3 b4 b5:Bool):Prop:=(b1=true→b0=true)∧(b3=true→b2=true)∧(b5=true→b4=true)
theorem left_of (b8:Bool) (fuel t:Nat) (hf:fuel=1+(!b8).toNat) (x:Value):Left (if b8 then .int .i64 0 else x) (Region.linearise.go .any aO6 fuel t #[true,true,true,true,true,true,true,false,b8] []):=by
  have r0:Region.ready .any aO6 #[true,true,true,true,true,true,true,false,true]=[7]:=by kernel_rfl
  have r1:Region.ready .any aO6 #[true,true,true,true,true,true,true,false,false]=[7,8]:=by kernel_rfl
  have r2:Region.ready .any aO6 #[true,true,true,true,true,true,true,true,false]=[8]:=by kernel_rfl
  cases b8
  · obtain rfl:fuel=0+1+1:=by simpa using hf
    obtain ⟨i,t',hi,e⟩:=go_succ (ops:=aO6) (0+1) t #[true,true,true,true,true,true,true,false,false] (by rw [r1];simp)
    rw [e]
    rw [r1] at hi
    simp at hi
    rcases hi with rfl | rfl
    · obtain ⟨i2,t2,hi2,e2⟩:=go_succ (ops:=aO6) 0 t' #[true,true,true,true,true,true,true,true,false] (by rw [r2];simp)
      rw [r2] at hi2
      simp at hi2
      subst hi2
      refine .inr (.inl ?_)
      show 7 :: Region.linearise.go .any aO6 (0+1) t' #[true,true,true,true,true,true,true,true,false] []=_
      rw [e2]
      rfl
    · obtain ⟨i2,t2,hi2,e2⟩:=go_succ (ops:=aO6) 0 t' #[true,true,true,true,true,true,true,false,true] (by rw [r0];simp)
      rw [r0] at hi2
      simp at hi2
      subst hi2
      refine .inr (.inr ?_)
      show 8 :: Region.linearise.go .any aO6 (0+1) t' #[true,true,true,true,true,true,true,false,true] []=_
      rw [e2]
      rfl
  · obtain rfl:fuel=0+1:=by simpa using hf
    obtain ⟨i,t',hi,e⟩:=go_succ (ops:=aO6) 0 t #[true,true,true,true,true,true,true,false,true] (by rw [r0];simp)
    rw [r0] at hi
    simp at hi
    subst hi
    refine .inl ⟨?_,rfl⟩
    rw [e]
    rfl
set_option maxHeartbeats 8000000 in
set_option maxRecDepth 100000 in
theorem any_order (hD:Dok X D) {f:Nat→Value} {pc K N m cap:Nat} {bo:Option Addr} {vn vs vm vh vb:Value} {v0:World} {l:List UInt8} (hvb:vb = .slice bo m cap) (hK:v0.cell? ⟨pc,0,none⟩=some (.int .i64 ((K:Nat):Int))) (hN:v0.cell? ⟨pc,1,none⟩=some (.int .i64 ((N:Nat):Int)))
    (hjoin:∀ τ d,Calls Tryz.prog 37 #[.slice bo m cap] { v0 with tape:=τ,drawn:=d } fun r w'=>Bel v0.heap.size v0 w' ∧ ∃ v,r = .returned v∧OwnB v0.heap.size w' v l)
    (hnext:∀ (T:Array Value) (rest:List Nat) (x vj:Value) (v:World),TA pc vn vs vm vh x T→Left x rest→Bel v0.heap.size v0 v→OwnB v0.heap.size v vj l→ReaI Tryz.prog X Y D Stop 36 (frameA T rest :: cs) [.code gBody] ⟨#[.int .i64 ((K:Nat):Int),.int .i64 ((N:Nat):Int),vj]++Array.replicate 23 undef,[]⟩ v) :
    ∀ (fuel t:Nat) (b0 b1 b2 b3 b4 b5 b8:Bool) (vj:Value) (v:World),fuel=2+(!b0).toNat+(!b1).toNat+(!b2).toNat+(!b3).toNat+(!b4).toNat+(!b5).toNat+(!b8).toNat→DC6 b0 b1 b2 b3 b4 b5→J5 v0 l b5 vj v →
      ReaI Tryz.prog X Y D Stop 20 cs (.inRegion aO6 (Region.linearise.go .any aO6 fuel t #[b0,b1,b2,b3,b4,b5,false,false,b8] []) :: [.code (.block 0 (.loop aLoop)),.code aRest]) ⟨T6 f pc K N vb vn vs vm vh vj b0 b1 b2 b3 b4 b5 b8,[]⟩ v:=by
  intro fuel
  induction fuel with
  | zero=>intro t b0 b1 b2 b3 b4 b5 b8 vj v hf;omega
  | succ fuel ih=>
    intro t b0 b1 b2 b3 b4 b5 b8 vj v hf hC hJ
    obtain ⟨i,t',hi,e⟩:=go_succ (ops:=aO6) fuel t _ (bits_ready b0 b1 b2 b3 b4 b5 b8)
    rw [e]
    obtain ⟨h1,o,ho,hall⟩:=mem_ready.1 hi
    have hb:=hJ.bel
    have hlt:i < 9:=by rw [← aO6_size];exact (Array.getElem?_eq_some_iff.1 ho).1
    have hKv:v.cell? ⟨pc,0,none⟩=some (.int .i64 ((K:Nat):Int)):=below_cell (w:={ v0 with tape:=v.tape }) hb (Nat.le_refl _) hK
    have hNv:v.cell? ⟨pc,1,none⟩=some (.int .i64 ((N:Nat):Int)):=below_cell (w:={ v0 with tape:=v.tape }) hb (Nat.le_refl _) hN
    match i,hlt with
    | 0,_=>
      obtain rfl:b0=false:=h1
      refine reaR_op goodF hD (.pointer (some ⟨pc,0,none⟩)) (by simp only [aO6,qa6];rfl) rfl (by kernel_rfl) (fun z _=>by unfold T6;go_simp) ?_
      exact ih t' true b1 b2 b3 b4 b5 b8 vj v (by simp at hf ⊢;omega) ⟨fun h=>rfl,hC.2⟩ hJ
    | 1,_=>
      obtain rfl:b1=false:=h1
      obtain rfl:b0=true:=by
        simp only [aO6,qa6] at ho
        cases ho
        exact hall _ (List.mem_toArray.2 (List.mem_singleton.2 rfl)) rfl
      refine reaR_op goodF hD (.int .i64 ((K:Nat):Int)) (by simp only [aO6,qa6];rfl) rfl (by kernel_rfl) (fun z hz=>by have hc:z.cell? ⟨pc,0,none⟩=some (.int .i64 ((K:Nat):Int)):=(by simp only [World.cell?,hz];exact hKv);unfold T6;go_simp) ?_
      exact ih t' true true b2 b3 b4 b5 b8 vj v (by simp at hf ⊢;omega) ⟨fun h=>rfl,hC.2⟩ hJ
    | 2,_=>
      obtain rfl:b2=false:=h1
      refine reaR_op goodF hD (.pointer (some ⟨pc,1,none⟩)) (by simp only [aO6,qa6];rfl) rfl (by kernel_rfl) (fun z _=>by unfold T6;go_simp) ?_
      exact ih t' b0 b1 true b3 b4 b5 b8 vj v (by simp at hf ⊢;omega) ⟨hC.1,fun h=>rfl,hC.2.2⟩ hJ
    | 3,_=>
      obtain rfl:b3=false:=h1
      obtain rfl:b2=true:=by
        simp only [aO6,qa6] at ho
        cases ho
        exact hall _ (List.mem_toArray.2 (List.mem_singleton.2 rfl)) rfl
      refine reaR_op goodF hD (.int .i64 ((N:Nat):Int)) (by simp only [aO6,qa6];rfl) rfl (by kernel_rfl) (fun z hz=>by have hc:z.cell? ⟨pc,1,none⟩=some (.int .i64 ((N:Nat):Int)):=(by simp only [World.cell?,hz];exact hNv);unfold T6;go_simp) ?_
      exact ih t' b0 b1 true true b4 b5 b8 vj v (by simp at hf ⊢;omega) ⟨hC.1,fun h=>rfl,hC.2.2⟩ hJ
    | 4,_=>
      obtain rfl:b4=false:=h1
      refine reaR_op goodF hD (vb) (by simp only [aO6,qa6];rfl) rfl (by kernel_rfl) (fun z _=>by unfold T6;go_simp) ?_
      exact ih t' b0 b1 b2 b3 true b5 b8 vj v (by simp at hf ⊢;omega) ⟨hC.1,hC.2.1,fun h=>rfl⟩ hJ
    | 5,_=>
      obtain rfl:b5=false:=h1
      obtain rfl:b4=true:=by
        simp only [aO6,qa6] at ho
        cases ho
        exact hall _ (List.mem_toArray.2 (List.mem_singleton.2 rfl)) rfl
      obtain ⟨_,rfl⟩ | ⟨h,_⟩:=hJ
      · refine reaI_calls goodF hD (goodF.body tame_join (by kernel_rfl)) (R:=fun y w'=>Bel v.heap.size v w' ∧ OwnB v.heap.size w' y l) (by simp only [aO6,qa6];rfl) rfl (by rfl) (vs:=#[.slice bo m cap]) (by rw [← hvb];simp [Act.eval,T6]) (Nat.le_of_ble_eq_true (by kernel_rfl)) (fun τ d=>(hjoin τ d).mono (by
          rintro r w' ⟨h1,y,rfl,h2⟩
          exact ⟨y,rfl,h1,h2⟩)) fun y v' hy => ?_
        exact ih t' b0 b1 b2 b3 true true b8 y v' (by simp at hf ⊢;omega) ⟨hC.1,hC.2.1,fun h=>rfl⟩ (.inr ⟨rfl,hy.1,hy.2⟩)
      · cases h
    | 6,_=>
      have hal:b1=true∧b3=true∧b5=true:=by
        simp only [aO6,qa6] at ho
        cases ho
        exact ⟨hall ⟨1,.data⟩ (by simp) rfl,hall ⟨3,.data⟩ (by simp) rfl,hall ⟨5,.data⟩ (by simp) rfl⟩
      obtain ⟨rfl,rfl,rfl⟩:=hal
      obtain rfl:=hC.1 rfl
      obtain rfl:=hC.2.1 rfl
      obtain rfl:=hC.2.2 rfl
      obtain ⟨h,_⟩ | ⟨_,hb,hO⟩:=hJ
      · cases h
      · refine reaR_call hD (by simp only [aO6,qa6];rfl) rfl (by rfl) Tryz.func36 (by kernel_rfl) (c:=gBody) (by kernel_rfl) (vs:=#[.int .i64 ((K:Nat):Int),.int .i64 ((N:Nat):Int),vj]) (n:=23) (by simp [Act.eval,T6]) (by kernel_rfl) ?_
        exact hnext _ _ _ vj v (ta_mk rfl) (left_of b8 fuel t' (by simp at hf ⊢;omega) (f 36)) hb hO
    | 7,_=>
      simp only [aO6,qa6] at ho
      cases ho
      have:=hall _ (List.mem_toArray.2 (List.mem_singleton.2 rfl)) rfl
      cases this
    | 8,_=>
      obtain rfl:b8=false:=h1
      refine reaR_op goodF hD (.int .i64 0) (by simp only [aO6,qa6];rfl) rfl (by kernel_rfl) (fun z _=>by unfold T6;go_simp) ?_
      exact ih t' b0 b1 b2 b3 b4 b5 true vj v (by simp at hf ⊢;omega) hC hJ
end
theorem rea_T6 {X:Nat→Prop} {Y:Nat→Option Obj} {D:Nat→World→Array Event→Prop} {Stop:Goroutine→World→Prop} {cs:List Frame} {k:List Item} {v:World} {T:Array Value} (pc K N:Nat) (vb vn vs vm vh:Value) (h:T=T6 (fun i=>T.getD i undef) pc K N vb vn vs vm vh undef false false false false false false false) (hr:∀ f,ReaI Tryz.prog X Y D Stop 20 cs k ⟨T6 f pc K N vb vn vs vm vh undef false false false false false false false,[]⟩ v):ReaI Tryz.prog X Y D Stop 20 cs k ⟨T,[]⟩ v:=by
  rw [h]
  exact hr _
theorem BC.bel {w w':World} {bo:Option Addr} {n B:Nat} {f:Nat→Ent} (h:BC w bo n f) (hb:Bel B w w') (hB:w.heap.size≤B):BC w' bo n f:=BC.below (w:={ w with tape:=w'.tape }) ⟨h.here⟩ hb hB
theorem DataAt.bel {w w':World} {e:Ent} {d:List UInt8} {B:Nat} (h:DataAt w e d) (hb:Bel B w w') (hB:w.heap.size≤B):DataAt w' e d:=DataAt.below (w:={ w with tape:=w'.tape }) h hb hB
theorem Tab.bel {w w':World} {B:Nat} (h:Tab w) (hb:Bel B w w') (hB:2 < B):Tab w':=Tab.below (w:={ w with tape:=w'.tape }) h hb hB
structure FA (K N C m:Nat) (g:Nat→Ent) (l:List UInt8) (pc gm bh:Nat) (vn vs vj:Value) (w u w':World):Prop where
  par:RowAt u pc [.int .i64 ((K:Nat):Int),.int .i64 ((N:Nat):Int),.int .i64 ((C:Nat):Int)] 24
  nm:Lies u vn (nameV (namesOf m g))
  sz:Lies u vs (intV (sizesOf m g))
  man:Byt u gm 0 (sealB (manTo (namesOf m g) (sizesOf m g) (namesOf m g).length))
  gml:gm < u.heap.size
  tab:Tab u
  us:u.heap.size=bh
  wu:Bel w.heap.size w u
  bel:Bel bh u w'
  sh:w'.heap[bh]? = some (.cells (madeCells #[.slice none 0 0] N) 33)
  dat:Lies w' vj (u8V l)
def mlen (m:Nat) (g:Nat→Ent):Nat:=(sealB (manTo (namesOf m g) (sizesOf m g) (namesOf m g).length)).length
section
variable {X:Nat→Prop} {Y:Nat→Option Obj} {D:Nat→World→Array Event→Prop} {Stop:Goroutine→World→Prop} {w:World} {K N C m cap:Nat} {bo:Option Addr} {g:Nat→Ent} {d:Ent→List UInt8}
set_option maxHeartbeats 8000000 in
set_option maxRecDepth 100000 in
theorem to_cols (hDk:Dok X D) {cs:List Frame} (hKN:1≤K∧K≤N∧N≤128) (hm:m≤1048576) (hB:BC w bo m g) (hD:∀ i,i < m→DataAt w (g i) (d (g i))) (hN:NamesOk (namesOf m g)) (hF:FewOk (namesOf m g) (sizesOf m g)) (hT:Tab w)
    (hnext:∀ (T:Array Value) (rest:List Nat) (x vn vs vj:Value) (pc gm cm bh:Nat) (u w':World),TA pc vn vs (.slice (some ⟨gm,0,none⟩) (mlen m g) cm) (.slice (some ⟨bh,0,none⟩) N N) x T→Left x rest→FA K N C m g (joinD (fun j=>d (g j)) m) pc gm bh vn vs vj w u w' →
      ReaI Tryz.prog X Y D Stop 36 (frameA T rest :: cs) [.code gBody] ⟨#[.int .i64 ((K:Nat):Int),.int .i64 ((N:Nat):Int),vj]++Array.replicate 23 undef,[]⟩ w') :
    ReaI Tryz.prog X Y D Stop 20 cs [.code aBody] ⟨#[.slice bo m cap,.agg #[.int .i64 ((K:Nat):Int),.int .i64 ((N:Nat):Int),.int .i64 ((C:Nat):Int)]]++Array.replicate 58 undef,[]⟩ w:=by
  have hL:=names_listed hN
  have htot:=tot_sizes d g m (fun i hi=>(hD i hi).1)
  have hjl:(joinD (fun j=>d (g j)) m).length≤65536:=by rw [← htot];exact hF.2.1
  have toBC:∀ {u:World},Bel w.heap.size w u→BC u bo m g:=fun {u} hb=>hB.bel hb (Nat.le_refl _)
  have toD:∀ {u:World},Bel w.heap.size w u→∀ i,i < m→DataAt u (g i) (d (g i)):=fun {u} hb i hi=>(hD i hi).bel hb (Nat.le_refl _)
  have toT:∀ {u:World},Bel w.heap.size w u→Tab u:=fun {u} hb=>hT.bel hb hT.1
  have eB:aBody = .seq (gFst aBody) (.seq (gFst (gSnd aBody)) (.seq (gFst (gSnd (gSnd aBody))) (.seq (gFst (gSnd (gSnd (gSnd aBody)))) (.seq (gFst (gSnd (gSnd (gSnd (gSnd aBody))))) (.seq aC6 aRest))))):=by kernel_rfl
  rw [eB]
  simp only [Array.replicate_succ,Array.replicate_zero,List.push_toArray,List.append_toArray,List.nil_append,List.cons_append]
  refine reachI_go goodF hDk (by kernel_rfl) rfl sfA fun R hR τ d' => ?_
  have hzB:w.heap.size≤({ w with tape:=τ,drawn:=d' }:World).heap.size:=Nat.le_refl _
  have bl:Bel w.heap.size w { w with tape:=τ,drawn:=d' }:=(Bel.refl _ w).tp τ d'
  generalize ({ w with tape:=τ,drawn:=d' }:World)=wA at hzB bl ⊢
  have hr0:RowAt (wA.alloc (.cells #[.int .i64 ((K:Nat):Int),.int .i64 ((N:Nat):Int),.int .i64 ((C:Nat):Int)] 24)) wA.heap.size [.int .i64 ((K:Nat):Int),.int .i64 ((N:Nat):Int),.int .i64 ((C:Nat):Int)] 24:=RowAt.made wA [.int .i64 ((K:Nat):Int),.int .i64 ((N:Nat):Int),.int .i64 ((C:Nat):Int)] 24
  have hb0:=(Below.refl wA.heap.size wA).alloc (Nat.le_refl _) (.cells #[.int .i64 ((K:Nat):Int),.int .i64 ((N:Nat):Int),.int .i64 ((C:Nat):Int)] 24)
  have s0:wA.heap.size < (wA.alloc (.cells #[.int .i64 ((K:Nat):Int),.int .i64 ((N:Nat):Int),.int .i64 ((C:Nat):Int)] 24)).heap.size:=by simp
  replace bl:=bl.trans (Bel.of hb0) hzB
  simp only [gFst,aBody,Tryz.f20,Option.getD_some]
  go_wp2
  generalize wA.alloc (.cells #[.int .i64 ((K:Nat):Int),.int .i64 ((N:Nat):Int),.int .i64 ((C:Nat):Int)] 24)=w0 at hr0 bl s0 ⊢
  generalize wA.heap.size=pc at *
  clear hb0
  refine reachI_go goodF hDk (by kernel_rfl) rfl sfA fun R hR τ d' => ?_
  replace hr0:RowAt ({ w0 with tape:=τ,drawn:=d' }:World) pc [.int .i64 ((K:Nat):Int),.int .i64 ((N:Nat):Int),.int .i64 ((C:Nat):Int)] 24:=hr0
  replace s0:pc < ({ w0 with tape:=τ,drawn:=d' }:World).heap.size:=s0
  replace bl:=bl.tp τ d'
  generalize ({ w0 with tape:=τ,drawn:=d' }:World)=w0 at hr0 bl s0 ⊢
  have kc:=content_any m cap bo g w0 hm (toBC bl)
  simp only [gFst,gSnd,aBody,Tryz.f20,Option.getD_some]
  go_wp2_with (first | (go_at_call 34;(with_reducible refine kc.mono ?_);rintro r w1 ⟨hb1,vn,vs,rfl,hn1,hs1⟩))
  clear kc
  have hr1:=hr0.later (S:=fun _=>False) (.of_below hb1) s0 id
  have bl1:=bl.trans (Bel.of hb1) bl.size'
  replace hn1:=lies_owns hn1
  replace hs1:=lies_owns hs1
  clear hb1 hr0 bl s0
  have HF:Hid (FewOk (namesOf m g) (sizesOf m g)):=hF
  refine reachI_go goodF hDk (by kernel_rfl) rfl sfA fun R hR τ d' => ?_
  replace hr1:RowAt ({ w1 with tape:=τ,drawn:=d' }:World) pc [.int .i64 ((K:Nat):Int),.int .i64 ((N:Nat):Int),.int .i64 ((C:Nat):Int)] 24:=hr1
  replace hn1:Lies ({ w1 with tape:=τ,drawn:=d' }:World) vn (nameV (namesOf m g)):=hn1
  replace hs1:Lies ({ w1 with tape:=τ,drawn:=d' }:World) vs (intV (sizesOf m g)):=hs1
  replace bl1:=bl1.tp τ d'
  generalize ({ w1 with tape:=τ,drawn:=d' }:World)=w1 at hr1 hn1 hs1 bl1 ⊢
  have kf:=contentFits_any vn vs (namesOf m g) (sizesOf m g) (by rw [namesOf_length];omega) (by rw [sizesOf_length];omega) hL w1 hn1 hs1
  simp only [gFst,gSnd,aBody,Tryz.f20,Option.getD_some]
  go_wp2_with (first | (go_at_call 35;(with_reducible refine kf.mono ?_);rintro r w2 ⟨hw2,ht⟩;obtain rfl:=ht.yes HF.out;obtain rfl:=hw2.symm))
  clear kf
  refine reachI_go goodF hDk (by kernel_rfl) rfl sfA fun R hR τ d' => ?_
  replace hr1:RowAt ({ w1 with tape:=τ,drawn:=d' }:World) pc [.int .i64 ((K:Nat):Int),.int .i64 ((N:Nat):Int),.int .i64 ((C:Nat):Int)] 24:=hr1
  replace hn1:Lies ({ w1 with tape:=τ,drawn:=d' }:World) vn (nameV (namesOf m g)):=hn1
  replace hs1:Lies ({ w1 with tape:=τ,drawn:=d' }:World) vs (intV (sizesOf m g)):=hs1
  replace bl1:=bl1.tp τ d'
  generalize ({ w1 with tape:=τ,drawn:=d' }:World)=w1 at hr1 hn1 hs1 bl1 ⊢
  have km:=manifest_any vn vs (namesOf m g) (sizesOf m g) hL hF.1 hF.2.1 w1 hn1 hs1 (toT bl1)
  simp only [gFst,gSnd,aBody,Tryz.f20,Option.getD_some]
  go_wp2_with (first | (go_at_call 26;(with_reducible refine km.mono ?_);rintro r w2 ⟨vm,rfl,hO2,hb2⟩))
  clear km
  obtain ⟨gm,cm,rfl,_,hgm0,hgm,_,hmb⟩:=owns_byt hO2 (by rw [sealB_length];omega)
  have bl2:=bl1.trans (Bel.of hb2) bl1.size'
  have hr2:=hr1.later (S:=fun _=>False) (.of_below hb2) hr1.lt id
  have hn2:=hn1.below hb2
  have hs2:=hs1.below hb2
  clear hb2 hr1 hn1 hs1 bl1 hgm0 hO2
  refine reachI_go goodF hDk (by kernel_rfl) rfl sfA fun R hR τ d' => ?_
  replace hr2:RowAt ({ w2 with tape:=τ,drawn:=d' }:World) pc [.int .i64 ((K:Nat):Int),.int .i64 ((N:Nat):Int),.int .i64 ((C:Nat):Int)] 24:=hr2
  replace hn2:Lies ({ w2 with tape:=τ,drawn:=d' }:World) vn (nameV (namesOf m g)):=hn2
  replace hs2:Lies ({ w2 with tape:=τ,drawn:=d' }:World) vs (intV (sizesOf m g)):=hs2
  replace hmb:Byt ({ w2 with tape:=τ,drawn:=d' }:World) gm 0 (sealB (manTo (namesOf m g) (sizesOf m g) (namesOf m g).length)):=hmb
  replace hgm:gm < ({ w2 with tape:=τ,drawn:=d' }:World).heap.size:=hgm
  replace bl2:=bl2.tp τ d'
  generalize ({ w2 with tape:=τ,drawn:=d' }:World)=w2 at hr2 hn2 hs2 hmb hgm bl2 ⊢
  have c1:=hr2.cell (i:=1) rfl
  have m2:=make_lists N (by omega) w2
  have z2:=heap_alloc_new w2 (.cells (madeCells #[.slice none 0 0] N) 33)
  have hb3:Below w2.heap.size w2 (w2.alloc (.cells (madeCells #[.slice none 0 0] N) 33)):=(Below.refl _ _).alloc (Nat.le_refl _) _
  simp only [gFst,gSnd,aBody,Tryz.f20,Option.getD_some]
  go_wp2
  clear m2 c1
  generalize w2.alloc (.cells (madeCells #[.slice none 0 0] N) 33)=w3 at *
  have bl3:=bl2.trans (Bel.of hb3) bl2.size'
  have hr3:=hr2.later (S:=fun _=>False) (.of_below hb3) hr2.lt id
  have hs3:w2.heap.size < w3.heap.size:=(Array.getElem?_eq_some_iff.1 z2).1
  refine reachI_split hDk rfl ?_
  rw [aC6_eq]
  refine reachI_split hDk rfl (reaI_draw hDk fun t => ?_)
  rw [order_any mixedA,aO6_size]
  have kj:∀ τ dd,Calls Tryz.prog 37 #[.slice bo m cap] { w3 with tape:=τ,drawn:=dd } fun r w'=>Bel w3.heap.size w3 w' ∧ ∃ v,r = .returned v∧OwnB w3.heap.size w' v (joinD (fun j=>d (g j)) m):=fun τ dd=>
    (join_any m cap bo g (fun j=>d (g j)) { w3 with tape:=τ,drawn:=dd } hm (toBC (bl3.tp τ dd)) (toD (bl3.tp τ dd)) (by omega)).mono fun r w' ⟨h1,v,h2,h3⟩=>⟨⟨h1.os,rfl,h1.output,h1.size,h1.block⟩,v,h2,h3⟩
  refine rea_T6 pc K N (.slice bo m cap) vn vs (.slice (some ⟨gm,0,none⟩) (mlen m g) cm) (.slice (some ⟨w2.heap.size,0,none⟩) N N) rfl fun f => ?_
  refine any_order hDk (f:=f) (vj:=undef) (bo:=bo) (m:=m) (cap:=cap) (l:=joinD (fun j=>d (g j)) m) rfl (hr3.cell (i:=0) rfl) (hr3.cell (i:=1) rfl) kj (fun T rest x vj v hTA hLf hb hO => ?_) 9 t false false false false false false false w3 rfl ⟨(fun h=>by cases h),(fun h=>by cases h),(fun h=>by cases h)⟩ (.inl ⟨rfl,rfl⟩)
  exact hnext T rest x vn vs vj pc gm cm w2.heap.size w2 v hTA hLf ⟨hr2,hn2,hs2,hmb,hgm,toT bl2,rfl,bl2,(Bel.of hb3).trans hb (by omega),(hb.blk hs3).trans z2,lies_owns hO⟩
end
end Go.Proofs.YtkpcmfgeanlcnabGreatDoor
