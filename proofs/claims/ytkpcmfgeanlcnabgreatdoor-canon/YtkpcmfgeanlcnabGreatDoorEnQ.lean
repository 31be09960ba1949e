/-
  slices.Chunk's function beside goroutines that leave: it hands out the frames, one behind the other.
-/
import Derived.Test.YtkpcmfgeanlcnabGreatDoorEnN
import Derived.BigQuiet
namespace Go.Proofs.YtkpcmfgeanlcnabGreatDoor
open Go.RowKit Go.Deep Go.Lf Go.Conc
noncomputable def kBody:Code:=Tryz.f71.body.getD .skip
noncomputable def kLoop:Code:=gIn (gIn (gSnd kBody))
noncomputable def qk1:{x:Array Oper // x=gOps (gFst (gFst kLoop))}:=⟨_,by (simp only [kBody,kLoop,gIn,gFst,gSnd,gOps,Tryz.f71,Option.getD_some];rfl)⟩
noncomputable def qk2:{x:Array Oper // x=gOps (gSnd (gSnd kLoop))}:=⟨_,by (simp only [kBody,kLoop,gIn,gSnd,gOps,Tryz.f71,Option.getD_some];rfl)⟩
noncomputable def qk3:{x:Array Oper // x=gOps (gFst (gIn (gFst (gSnd kLoop))))}:=⟨_,by (simp only [kBody,kLoop,gIn,gFst,gSnd,gOps,Tryz.f71,Option.getD_some];rfl)⟩
noncomputable def qk4:{x:Array Oper // x=gOps (gFst (gSnd (gIn (gFst (gSnd kLoop)))))}:=⟨_,by (simp only [kBody,kLoop,gIn,gFst,gSnd,gOps,Tryz.f71,Option.getD_some];rfl)⟩
noncomputable def kO1:Array Oper:=qk1.1
noncomputable def kO2:Array Oper:=qk2.1
noncomputable def kO3:Array Oper:=qk3.1
noncomputable def kO4:Array Oper:=qk4.1
theorem kLoop_eq:kLoop = .seq (.seq (.region 1 kO1 false) (.cond (.tmp 9) .skip (.exit 0))) (.seq (.block 1 (.seq (.region 3 kO3 true) (.seq (.region 4 kO4 false) (.cond (.tmp 30) .ret .skip)))) (.region 2 kO2 false)):=by kernel_rfl
theorem kBody_eq:kBody = .seq (.region 0 (gOps (gFst kBody)) false) (.block 0 (.loop kLoop)):=by kernel_rfl
theorem kO4_size:kO4.size=12:=by kernel_rfl
theorem sfK:∃ fn,Tryz.prog.funcs[71]? = some fn:=⟨_,Tryz.func71⟩
def TKi (l sb nb:Nat) (x:Int) (T:Array Value):Prop:=∃ f:Nat→Value,T = #[.func (.yield l) #[] #[],.pointer (some ⟨sb,0,none⟩),.pointer (some ⟨nb,0,none⟩),f 3,.int .i64 x,f 5,f 6,f 7,f 8,f 9,f 10,f 11,f 12,f 13,f 14,f 15,f 16,f 17,f 18,f 19,f 20,f 21,f 22,f 23,f 24,f 25,f 26,f 27,f 28,f 29,f 30]
theorem tk_mk {l sb nb:Nat} {x:Int} {T:Array Value} (h:T = #[.func (.yield l) #[] #[],.pointer (some ⟨sb,0,none⟩),.pointer (some ⟨nb,0,none⟩),T.getD 3 undef,.int .i64 x,T.getD 5 undef,T.getD 6 undef,T.getD 7 undef,T.getD 8 undef,T.getD 9 undef,T.getD 10 undef,T.getD 11 undef,T.getD 12 undef,T.getD 13 undef,T.getD 14 undef,T.getD 15 undef,T.getD 16 undef,T.getD 17 undef,T.getD 18 undef,T.getD 19 undef,T.getD 20 undef,T.getD 21 undef,T.getD 22 undef,T.getD 23 undef,T.getD 24 undef,T.getD 25 undef,T.getD 26 undef,T.getD 27 undef,T.getD 28 undef,T.getD 29 undef,T.getD 30 undef]):TKi l sb nb x T:=⟨fun i=>T.getD i undef,h⟩
def TK (l sb nb p:Nat) (T:Array Value):Prop:=TKi l sb nb ((p:Nat):Int) T
def TK5 (l sb nb p m:Nat) (T:Array Value):Prop:=∃ f:Nat→Value,T = #[.func (.yield l) #[] #[],.pointer (some ⟨sb,0,none⟩),.pointer (some ⟨nb,0,none⟩),f 3,.int .i64 ((p:Nat):Int),.int .i64 ((m:Nat):Int),f 6,f 7,f 8,f 9,f 10,f 11,f 12,f 13,f 14,f 15,f 16,f 17,f 18,f 19,f 20,f 21,f 22,f 23,f 24,f 25,f 26,f 27,f 28,f 29,f 30]
theorem tk5_mk {l sb nb p m:Nat} {T:Array Value} (h:T = #[.func (.yield l) #[] #[],.pointer (some ⟨sb,0,none⟩),.pointer (some ⟨nb,0,none⟩),T.getD 3 undef,.int .i64 ((p:Nat):Int),.int .i64 ((m:Nat):Int),T.getD 6 undef,T.getD 7 undef,T.getD 8 undef,T.getD 9 undef,T.getD 10 undef,T.getD 11 undef,T.getD 12 undef,T.getD 13 undef,T.getD 14 undef,T.getD 15 undef,T.getD 16 undef,T.getD 17 undef,T.getD 18 undef,T.getD 19 undef,T.getD 20 undef,T.getD 21 undef,T.getD 22 undef,T.getD 23 undef,T.getD 24 undef,T.getD 25 undef,T.getD 26 undef,T.getD 27 undef,T.getD 28 undef,T.getD 29 undef,T.getD 30 undef]):TK5 l sb nb p m T:=⟨fun i=>T.getD i undef,h⟩
section
variable {X:Nat→Prop} {Y:Nat→Option Obj} {D:Nat→World→Array Event→Prop} {Stop:Goroutine→World→Prop} {v:World} {cs:List Frame} {cfr:Frame}
set_option maxHeartbeats 8000000 in
set_option maxRecDepth 100000 in
theorem chunk1I (hD:Dok X D) (l sb nb b off len cap c:Nat) (hc:1≤c) (hc2:c≤65536) (hlen:len≤1000000) (hcap:len≤cap) (ba:Option Addr) (hba:0 < len→ba=some ⟨b,off,none⟩) (r:Loop) (hps:r.params.size=1) (hO:Ours X Y l)
    (Inv:Nat→World→Prop) (hI:∀ j v,Inv j v→Boxed v sb 33 (.slice ba len cap)∧Boxed v nb 3 (.int .i64 (c:Int))∧v.heap[l]? = some (.loop r)) (_hIt:∀ j (v:World) τ d,Inv j v→Inv j { v with tape:=τ,drawn:=d })
    (round:∀ (j:Nat) (v:World) (cfr:Frame) (cs:List Frame),j*c < len→Inv j v→(∀ v',Inv (j+1) v' → ∀ w,SimT X Y w v' → GoesI Tryz.prog D Stop (G (cfr.finish (.bool true)) cs) w) →
      ReaR Tryz.prog X Y D Stop (some l) [] r.fn (cfr :: cs) [.code r.assign,.beginRound,.code r.body] ((r.params.zip #[frameV b off len c j]).foldl (fun tmps (t,a)=>tmps.setIfInBounds t a) r.tmps) v)
    (done:∀ v,Inv (nFr c len) v→∀ w,SimT X Y w v→GoesI Tryz.prog D Stop (G (cfr.finish (.tuple #[])) cs) w) :
    ∀ (q j:Nat) (T:Array Value) (v:World),j+q=nFr c len→TK l sb nb (j*c) T→Inv j v→ReaR Tryz.prog X Y D Stop none [] 71 (cfr :: cs) [.code kLoop,.inLoop kLoop,.inBlock 0] T v:=by
  intro q
  induction q with
  | zero=>
    intro j T v hj ⟨f,hT⟩ hinv
    obtain rfl:j=nFr c len:=by omega
    subst hT
    obtain ⟨hs,hn,hl⟩:=hI _ _ hinv
    have hge:¬ (nFr c len*c < len):=fun h=>by have:=(nFr_lt hc).2 h;omega
    have hnl:¬ (((nFr c len*c:Nat):Int) < (len:Int)):=by omega
    generalize nFr c len*c=p at *
    rw [kLoop_eq]
    refine reaR_split hD (reaR_split hD (reaR_go goodF hD (by kernel_rfl) sfK fun R hR τ d => ?_))
    have cS:=Boxed.cell (W:={ v with tape:=τ,drawn:=d }) hs
    simp only [kO1,qk1]
    go_wp2
    change ReaR _ _ _ _ _ _ _ _ _ _ _ v
    refine reaR_cond (b:=false) hD (by simp) (reaR_exit hD rfl ?_)
    exact reaR_fall hD Tryz.func71 (fun τ d=>results_none (fn:=Tryz.f71) rfl _ _ _) (done v hinv)
  | succ q ih=>
    intro j T v hj ⟨f,hT⟩ hinv
    subst hT
    obtain ⟨hs,hn,hl⟩:=hI _ _ hinv
    have hlt:j*c < len:=(nFr_lt hc).1 (by omega)
    have hk1:Hid ((j+1)*c=j*c+c):=by show _=_;rw [Nat.add_mul,Nat.one_mul]
    have hrd:=fun cfr cs=>round j v cfr cs hlt hinv
    obtain rfl:=hba (by omega)
    unfold frameV at hrd
    generalize j*c=p at *
    have hlt':(p:Int) < (len:Int):=by omega
    obtain ⟨m,em⟩:∃ m,min c (len - p)=m:=⟨_,rfl⟩
    rw [em] at hrd
    have hm:m≤c∧m≤len - p∧1≤m:=by omega
    have hwr:IntKind.i64.wrap ((p:Int)+(m:Int))=(p:Int)+(m:Int):=by rw [IntKind.wrap_i64];omega
    have htn:((p:Int)+(m:Int)).toNat=p+m:=by omega
    have key:∀ T,TK5 l sb nb p m T→ReaR Tryz.prog X Y D Stop none [] 71 (cfr :: cs) [.code (.seq (.region 4 kO4 false) (.cond (.tmp 30) .ret .skip)),.inBlock 1,.code (.region 2 kO2 false),.inLoop kLoop,.inBlock 0] T v:=by
      rintro T ⟨f,hT⟩
      subst hT
      refine reaR_split hD (reaR_region hD ?_)
      rw [kO4_size]
      simp only [List.range,List.range.loop]
      refine reaR_op goodF hD (.func (.yield l) #[] #[]) (by simp only [kO4,qk4];rfl) rfl (by kernel_rfl) (fun z _=>by go_simp) ?_
      walk_nrm
      refine reaR_op goodF hD (.slice (some ⟨b,off,none⟩) len cap) (by simp only [kO4,qk4];rfl) rfl (by kernel_rfl) (fun z hz=>by have cS:=Boxed.cell (W:=z) (show z.heap[sb]? = _ by rw [hz];exact hs);go_simp) ?_
      walk_nrm
      refine reaR_op goodF hD (.int .i64 (p:Int)) (by simp only [kO4,qk4];rfl) rfl (by kernel_rfl) (fun z _=>by go_simp) ?_
      walk_nrm
      refine reaR_op goodF hD (.int .i64 (p:Int)) (by simp only [kO4,qk4];rfl) rfl (by kernel_rfl) (fun z _=>by go_simp) ?_
      walk_nrm
      refine reaR_op goodF hD (.int .i64 (m:Int)) (by simp only [kO4,qk4];rfl) rfl (by kernel_rfl) (fun z _=>by go_simp) ?_
      walk_nrm
      refine reaR_op goodF hD (.int .i64 ((p:Int)+(m:Int))) (by simp only [kO4,qk4];rfl) rfl (by kernel_rfl) (fun z _=>by go_simp) ?_
      walk_nrm
      refine reaR_op goodF hD (.int .i64 (p:Int)) (by simp only [kO4,qk4];rfl) rfl (by kernel_rfl) (fun z _=>by go_simp) ?_
      walk_nrm
      refine reaR_op goodF hD (.int .i64 (m:Int)) (by simp only [kO4,qk4];rfl) rfl (by kernel_rfl) (fun z _=>by go_simp) ?_
      walk_nrm
      refine reaR_op goodF hD (.int .i64 ((p:Int)+(m:Int))) (by simp only [kO4,qk4];rfl) rfl (by kernel_rfl) (fun z _=>by go_simp) ?_
      walk_nrm
      refine reaR_op goodF hD (.slice (some ⟨b,off+p,none⟩) m m) (by simp only [kO4,qk4];rfl) rfl (by kernel_rfl) (fun z _=>by
        go_simp
        rw [if_pos (by omega),if_pos (by omega),if_neg (by omega)]) ?_
      walk_nrm
      refine reaR_yield hD (t:=19) (vs:=#[.slice (some ⟨b,off+p,none⟩) m m]) (by simp only [kO4,qk4];rfl) rfl (by rfl) rfl (by simp [Act.eval]) hl hO (by rw [hps];rfl) ?_
      refine hrd _ _ fun v' hinv' => ?_
      obtain ⟨hs',hn',hl'⟩:=hI _ _ hinv'
      rw [Dn_finish (by simp only [kO4,qk4];rfl)]
      show ReaR _ _ _ _ _ _ _ _ _ _ _ _
      walk_nrm
      refine reaR_op goodF hD (.bool false) (by simp only [kO4,qk4];rfl) rfl (by kernel_rfl) (fun z _=>by go_simp) ?_
      walk_nrm
      refine reaR_endReg hD (reaR_cond (b:=false) hD (by simp) (reaR_skip hD (reaR_inBlock hD (reaR_go goodF hD (by kernel_rfl) sfK fun R hR τ d => ?_))))
      have cN:=Boxed.cell (W:={ v' with tape:=τ,drawn:=d }) hn'
      simp only [kO2,qk2]
      go_wp2
      change ReaR _ _ _ _ _ _ _ _ _ _ _ v'
      refine reaR_inLoop hD (ih (j+1) _ v' (by omega) ?_ hinv')
      rw [hk1.out]
      unfold TK
      rw [Int.natCast_add]
      exact tk_mk rfl
    rw [show [Item.code kLoop,Item.inLoop kLoop,Item.inBlock 0]=[Item.code (.seq (.seq (.region 1 kO1 false) (.cond (.tmp 9) .skip (.exit 0))) (.seq (.block 1 (.seq (.region 3 kO3 true) (.seq (.region 4 kO4 false) (.cond (.tmp 30) .ret .skip)))) (.region 2 kO2 false))),Item.inLoop kLoop,Item.inBlock 0] by rw [← kLoop_eq]]
    refine reaR_split hD (reaR_split hD (reaR_go goodF hD (by kernel_rfl) sfK fun R hR τ d => ?_))
    have cS:=Boxed.cell (W:={ v with tape:=τ,drawn:=d }) hs
    simp only [kO1,qk1]
    go_wp2
    change ReaR _ _ _ _ _ _ _ _ _ _ _ v
    refine reaR_cond (b:=true) hD (by simp) (reaR_skip hD (reaR_split hD (reaR_block hD (reaR_split hD (reaR_go goodF hD (by kernel_rfl) sfK fun R hR τ d => ?_)))))
    clear cS
    have cS:=Boxed.cell (W:={ v with tape:=τ,drawn:=d }) hs
    have cN:=Boxed.cell (W:={ v with tape:=τ,drawn:=d }) hn
    have hkey:∀ n T,TK5 l sb nb p m T→R ⟨T,[]⟩ (World.drewN { v with tape:=τ,drawn:=d } n):=fun n T hT=>hR _ _ (key T hT)
    simp only [kO3,qk3]
    clear key hR hrd ih round done hI _hIt hinv
    generalize ({ v with tape:=τ,drawn:=d }:World)=vv at cS cN hkey ⊢
    rcases Nat.lt_or_ge (len - p) c with q2 | q2
    · obtain rfl:m=len - p:=by omega
      go_wp2
      go_quiet (fail)
      exact ⟨rfl,rfl,hkey _ _ (tk5_mk rfl)⟩
    · obtain rfl:m=c:=by omega
      go_wp2
      go_quiet (fail)
      exact ⟨rfl,rfl,hkey _ _ (tk5_mk rfl)⟩
theorem chunk1_start (hD:Dok X D) (l sb nb:Nat) (h:∀ T,TK l sb nb 0 T→ReaR Tryz.prog X Y D Stop none [] 71 cs [.code kLoop,.inLoop kLoop,.inBlock 0] T v) :
    ReaR Tryz.prog X Y D Stop none [] 71 cs [.code kBody] (#[.func (.yield l) #[] #[]] ++ #[.pointer (some ⟨sb,0,none⟩),.pointer (some ⟨nb,0,none⟩)]++Array.replicate 28 undef) v:=by
  rw [kBody_eq]
  simp only [Array.replicate_succ,Array.replicate_zero,List.push_toArray,List.append_toArray,List.nil_append,List.cons_append]
  refine reaR_split hD (reaR_go goodF hD (by kernel_rfl) sfK fun R hR τ d => ?_)
  unfold kBody
  simp only [gFst,gOps,Tryz.f71,Option.getD_some]
  go_wp2
  change ReaR _ _ _ _ _ _ _ _ _ _ _ v
  exact reaR_block hD (reaR_loop hD (h _ (tk_mk rfl)))
end
noncomputable def wBody:Code:=Tryz.f25.body.getD .skip
noncomputable def wC5:Code:=gFst (gSnd (gSnd (gSnd (gSnd (gSnd wBody)))))
noncomputable def wRest:Code:=gSnd (gSnd (gSnd (gSnd (gSnd (gSnd wBody)))))
theorem sfW:∃ fn,Tryz.prog.funcs[25]? = some fn:=⟨_,Tryz.func25⟩
def TWr (row lb:Nat) (T:Array Value):Prop:=∃ f:Nat→Value,T = #[f 0,f 1,.pointer (some ⟨row,0,none⟩),f 3,f 4,f 5,.pointer (some ⟨lb,0,none⟩),f 7,f 8,f 9,f 10,f 11,f 12,f 13,f 14,f 15,f 16,f 17,f 18,f 19,f 20,f 21,f 22,f 23,f 24,f 25,f 26,f 27,f 28,f 29,f 30,f 31,f 32,f 33,f 34,f 35,f 36,f 37,f 38,f 39,f 40,f 41,f 42,f 43,f 44,f 45,f 46,f 47,f 48,f 49,f 50,f 51,f 52]
theorem twr_mk {row lb:Nat} {T:Array Value} (h:T = #[T.getD 0 undef,T.getD 1 undef,.pointer (some ⟨row,0,none⟩),T.getD 3 undef,T.getD 4 undef,T.getD 5 undef,.pointer (some ⟨lb,0,none⟩),T.getD 7 undef,T.getD 8 undef,T.getD 9 undef,T.getD 10 undef,T.getD 11 undef,T.getD 12 undef,T.getD 13 undef,T.getD 14 undef,T.getD 15 undef,T.getD 16 undef,T.getD 17 undef,T.getD 18 undef,T.getD 19 undef,T.getD 20 undef,T.getD 21 undef,T.getD 22 undef,T.getD 23 undef,T.getD 24 undef,T.getD 25 undef,T.getD 26 undef,T.getD 27 undef,T.getD 28 undef,T.getD 29 undef,T.getD 30 undef,T.getD 31 undef,T.getD 32 undef,T.getD 33 undef,T.getD 34 undef,T.getD 35 undef,T.getD 36 undef,T.getD 37 undef,T.getD 38 undef,T.getD 39 undef,T.getD 40 undef,T.getD 41 undef,T.getD 42 undef,T.getD 43 undef,T.getD 44 undef,T.getD 45 undef,T.getD 46 undef,T.getD 47 undef,T.getD 48 undef,T.getD 49 undef,T.getD 50 undef,T.getD 51 undef,T.getD 52 undef]):TWr row lb T:=⟨fun i=>T.getD i undef,h⟩
theorem Kept.trans {a b c:World} (h:Kept a b) (h':Kept b c):Kept a c:=⟨h'.os.trans h.os,h'.output.trans h.output,Nat.le_trans h.size h'.size,fun x hx=>(h'.block x (Nat.lt_of_lt_of_le hx h.size)).trans (h.block x hx)⟩
theorem below_kept {w w':World} (h:Below w.heap.size w w'):Kept w w':=⟨h.os,h.output,h.size,h.block⟩
theorem Kept.tape {w w':World} (h:Kept w w') (τ:Nat→Question→Nat) (d:Nat):Kept w { w' with tape:=τ,drawn:=d }:=⟨h.os,h.output,h.size,h.block⟩
theorem Kept.below {a b c:World} (h:Kept a b) (h':Below a.heap.size b c):Kept a c:=⟨h'.os.trans h.os,h'.output.trans h.output,Nat.le_trans h.size h'.size,fun x hx=>(h'.block x hx).trans (h.block x hx)⟩
theorem Kept.cell {w w':World} (h:Kept w w') {b o:Nat} {v:Value} (hc:w.cell? ⟨b,o,none⟩=some v):w'.cell? ⟨b,o,none⟩=some v:=by
  have hb:=cell_lt hc
  have e:=h.block b hb
  simp only [World.cell?,e] at hc ⊢
  exact hc
theorem Kept.byt {w w':World} (h:Kept w w') {b o:Nat} {l:List UInt8} (hb:Byt w b o l):Byt w' b o l:=fun j hj=>h.cell (hb j hj)
theorem Kept.tab {w w':World} (h:Kept w w') (ht:Tab w):Tab w':=⟨Nat.lt_of_lt_of_le ht.1 h.size,fun i hi=>h.cell (ht.2 i hi)⟩
section
variable {X:Nat→Prop} {Y:Nat→Option Obj} {D:Nat→World→Array Event→Prop} {Stop:Goroutine→World→Prop} {v:World} {cs:List Frame}
set_option maxHeartbeats 8000000 in
set_option maxRecDepth 100000 in
theorem layW_pre (hD:Dok X D) (k n i c:Nat) (hk:k≤255) (hn:n≤255) (hi:i≤255) (hc:1≤c) (hc2:c≤65536) (vN vS:Value) (bc:Option Addr) (len capc:Nat) (hlen:len≤65536) (gm capm ml:Nat) (man:List UInt8) (hml:man.length=ml) (hm8:8≤ml) (hm:ml≤1000000)
    (hman:Byt v gm 0 man) (_hgm:gm < v.heap.size) (hT:Tab v)
    (hnext:∀ (T:Array Value) (lb g4 cap4:Nat) (V:World),TWr v.heap.size lb T→v.heap.size < lb→lb < V.heap.size→Boxed V lb 33 (.slice (some ⟨g4,0,none⟩) (32+ml) cap4)→OwnB v.heap.size V (.slice (some ⟨g4,0,none⟩) (32+ml) cap4) (sealB ([67,65,73,82,78,49]++([UInt8.ofNat k,UInt8.ofNat n,UInt8.ofNat i,0]++(leB 4 c++(leB 4 (ml - 8)++(leB 4 len++[0,0])))))++man) →
      RowAt V v.heap.size [.int .i64 (k:Int),.int .i64 (n:Int),.int .i64 (i:Int),.int .i64 (c:Int),vN,vS,.slice bc len capc] 36→Kept v V→ReaR Tryz.prog X Y D Stop none [] 25 cs [.code wC5,.code wRest] T V) :
    ReaR Tryz.prog X Y D Stop none [] 25 cs [.code wBody] (#[.agg #[.int .i64 (k:Int),.int .i64 (n:Int),.int .i64 (i:Int),.int .i64 (c:Int),vN,vS,.slice bc len capc],.slice (some ⟨gm,0,none⟩) ml capm]++Array.replicate 51 undef) v:=by
  obtain ⟨i0,hi0,hz0,hz1,hz2⟩:=info_parts infoB8
  obtain ⟨f,ef⟩:∃ f,(len+c - 1) / c=f:=⟨_,rfl⟩
  have hf:f≤len+c:=by rw [← ef];exact Nat.le_trans (Nat.div_le_self _ _) (by omega)
  have hq:((len:Int)+(c:Int) - 1) / (c:Int)=(f:Int):=by
    rw [show (len:Int)+(c:Int) - 1=((len+c - 1:Nat):Int) by omega,← Int.natCast_ediv,ef]
  clear ef
  have hpos:2 < v.heap.size:=hT.1
  unfold wBody
  simp only [Tryz.f25,Option.getD_some,Array.replicate_succ,Array.replicate_zero,List.push_toArray,List.append_toArray,List.nil_append,List.cons_append]
  refine reaR_split hD (reaR_go goodF hD (by kernel_rfl) sfW fun R hR τ d => ?_)
  go_wp2
  change ReaR _ _ _ _ _ _ _ _ _ _ _ (v.alloc (.cells #[.int .i64 (k:Int),.int .i64 (n:Int),.int .i64 (i:Int),.int .i64 (c:Int),vN,vS,.slice bc len capc] 36))
  have hr0:=RowAt.made v [.int .i64 (k:Int),.int .i64 (n:Int),.int .i64 (i:Int),.int .i64 (c:Int),vN,vS,.slice bc len capc] 36
  have hb0:Kept v (v.alloc (.cells #[.int .i64 (k:Int),.int .i64 (n:Int),.int .i64 (i:Int),.int .i64 (c:Int),vN,vS,.slice bc len capc] 36)):=below_kept ((Below.refl v.heap.size v).alloc (Nat.le_refl _) _)
  have s0:(v.alloc (.cells #[.int .i64 (k:Int),.int .i64 (n:Int),.int .i64 (i:Int),.int .i64 (c:Int),vN,vS,.slice bc len capc] 36)).heap.size=v.heap.size+1:=by simp
  replace hr0:RowAt (v.alloc (.cells #[.int .i64 (k:Int),.int .i64 (n:Int),.int .i64 (i:Int),.int .i64 (c:Int),vN,vS,.slice bc len capc] 36)) v.heap.size [.int .i64 (k:Int),.int .i64 (n:Int),.int .i64 (i:Int),.int .i64 (c:Int),vN,vS,.slice bc len capc] 36:=hr0
  generalize v.alloc (.cells #[.int .i64 (k:Int),.int .i64 (n:Int),.int .i64 (i:Int),.int .i64 (c:Int),vN,vS,.slice bc len capc] 36)=V0 at hr0 hb0 s0 ⊢
  refine reaR_split hD (reaR_go goodF hD (by kernel_rfl) sfW fun R hR τ d => ?_)
  have c3:=RowAt.cell (w:={ V0 with tape:=τ,drawn:=d }) hr0 (i:=3) rfl
  have c6:=RowAt.cell (w:={ V0 with tape:=τ,drawn:=d }) hr0 (i:=6) rfl
  go_wp2
  change ReaR _ _ _ _ _ _ _ _ _ _ _ V0
  clear c3 c6
  refine reaR_split hD (reaR_go goodF hD (by kernel_rfl) sfW fun R hR τ d => ?_)
  have c6:=RowAt.cell (w:={ V0 with tape:=τ,drawn:=d }) hr0 (i:=6) rfl
  have hr0':RowAt { V0 with tape:=τ,drawn:=d } v.heap.size [.int .i64 (k:Int),.int .i64 (n:Int),.int .i64 (i:Int),.int .i64 (c:Int),vN,vS,.slice bc len capc] 36:=hr0
  have hb0':Kept v { V0 with tape:=τ,drawn:=d }:=hb0.tape τ d
  have s0':({ V0 with tape:=τ,drawn:=d }:World).heap.size=v.heap.size+1:=s0
  generalize ({ V0 with tape:=τ,drawn:=d }:World)=V1 at c6 hr0' hb0' s0' ⊢
  obtain ⟨w0,hmk,ho0,hg0⟩:=run_make_own (P:=Tryz.prog) V1 v.heap.size 33 5 i0 (.int .u8 0) 1 Tryz.underlying33 hi0 hz0 hz1 .i64 .i64 (32+ml+len+f*8+4) (by rw [hz2];omega) (by unfold maxLen;omega) (by omega)
  have hcast:((32+ml+len+f*8+4:Nat):Int)=32+(ml:Int)+(len:Int)+(f:Int)*8+4:=by omega
  rw [hcast] at hmk
  rw [s0'] at hmk ho0
  clear hcast
  obtain ⟨CP,eCP⟩:∃ CP,32+ml+len+f*8+4=CP:=⟨_,rfl⟩
  rw [eCP] at hmk ho0
  clear eCP
  have hr1:RowAt w0 v.heap.size [.int .i64 (k:Int),.int .i64 (n:Int),.int .i64 (i:Int),.int .i64 (c:Int),vN,vS,.slice bc len capc] 36:=(hg0.block v.heap.size (by omega) (by simp)).trans hr0'
  have hO0:OwnB v.heap.size w0 (.slice (some ⟨v.heap.size+1,0,none⟩) 0 CP) []:=OwnB.of ho0
  have hb1:Kept v w0:=hb0'.below ((Below.refl v.heap.size V1).grown hg0 (by omega) (fun k hk=>by cases hk))
  have hs0:v.heap.size < w0.heap.size:=by have:=hg0.size;omega
  have hL1:=Boxed.new w0 33 (.slice (some ⟨v.heap.size+1,0,none⟩) 0 CP)
  have hO1:=hO0.alloc (.cells #[.slice (some ⟨v.heap.size+1,0,none⟩) 0 CP] 33)
  have hb2:Kept v (w0.alloc (.cells #[.slice (some ⟨v.heap.size+1,0,none⟩) 0 CP] 33)):=hb1.below ((Below.refl v.heap.size w0).alloc (by omega) _)
  have hr2:RowAt (w0.alloc (.cells #[.slice (some ⟨v.heap.size+1,0,none⟩) 0 CP] 33)) v.heap.size [.int .i64 (k:Int),.int .i64 (n:Int),.int .i64 (i:Int),.int .i64 (c:Int),vN,vS,.slice bc len capc] 36:=hr1.keep ((KeepT.refl _).alloc _) (by decide)
  have hs2:w0.heap.size < (w0.alloc (.cells #[.slice (some ⟨v.heap.size+1,0,none⟩) 0 CP] 33)).heap.size:=by simp
  clear hg0 ho0 hO0 hr1 hr0' hb1 hb0'
  go_wp2
  clear hmk c6
  generalize w0.alloc (.cells #[.slice (some ⟨v.heap.size+1,0,none⟩) 0 CP] 33)=V2 at hL1 hO1 hb2 hr2 hs2 ⊢
  generalize w0.heap.size=lb at *
  refine reaR_split hD (reaR_go goodF hD (by kernel_rfl) sfW fun R hR τ d => ?_)
  replace hL1:Boxed { V2 with tape:=τ,drawn:=d } lb 33 _:=hL1
  replace hO1:OwnB v.heap.size { V2 with tape:=τ,drawn:=d } _ _:=hO1
  replace hr2:RowAt { V2 with tape:=τ,drawn:=d } v.heap.size _ 36:=hr2
  replace hb2:Kept v { V2 with tape:=τ,drawn:=d }:=hb2.tape τ d
  replace hs2:lb < ({ V2 with tape:=τ,drawn:=d }:World).heap.size:=hs2
  generalize ({ V2 with tape:=τ,drawn:=d }:World)=V3 at *
  have c0:=hr2.cell (i:=0) rfl
  have c1:=hr2.cell (i:=1) rfl
  have c2:=hr2.cell (i:=2) rfl
  have c3:=hr2.cell (i:=3) rfl
  have c4:=hr2.cell (i:=4) rfl
  have c5:=hr2.cell (i:=5) rfl
  have c6:=hr2.cell (i:=6) rfl
  have cL:=hL1.cell
  have hM8:(ml:Int) - 8=((ml - 8:Nat):Int):=by omega
  have K1:=appHead_any v.heap.size _ k n i c hk hn hi hc2 vN vS bc len capc (by omega) ((ml:Int) - 8) (ml - 8) hM8 (by omega) _ hO1 hb2.size (hb2.tab hT) hpos
  clear hM8
  obtain ⟨H,eH⟩:∃ H,sealB ([67,65,73,82,78,49]++([UInt8.ofNat k,UInt8.ofNat n,UInt8.ofNat i,0]++(leB 4 c++(leB 4 (ml - 8)++(leB 4 len++[0,0])))))=H:=⟨_,rfl⟩
  have hHl:Hid (H.length=32):=by
    show _=_
    rw [← eH,sealB_length];simp [leB_length]
  rw [eH] at K1 hnext
  clear eH
  go_wp2_with (first | (go_at_call 47;(with_reducible refine K1.mono ?_);clear K1;rintro r w2 ⟨v2,rfl,hO2,hb3,hk2⟩;obtain ⟨g2,cap2,rfl,_,_,_,_,_⟩:=owns_byt hO2 (by have:=hHl.out;omega);have hL2:Boxed w2 lb 33 _:=hk2.same _ _ hL1 rfl;have cL2:=hL2.cell;have fL2:=hL2.frozen))
  have hr3:=(hr2.keep hk2 (by decide)).setO (lb:=lb) (by omega) (.slice (some ⟨g2,0,none⟩) H.length cap2)
  have hO3:=hO2.set hL2 (.slice (some ⟨g2,0,none⟩) H.length cap2)
  have hL3:=hL2.set (.slice (some ⟨g2,0,none⟩) H.length cap2)
  have hb4:Kept v (w2.setCell ⟨lb,0,none⟩ (.slice (some ⟨g2,0,none⟩) H.length cap2)):=(hb2.below hb3).below ((Below.refl v.heap.size w2).setCell (p:=⟨lb,0,none⟩) (by show v.heap.size≤lb;omega) _)
  have hs3:lb < (w2.setCell ⟨lb,0,none⟩ (.slice (some ⟨g2,0,none⟩) H.length cap2)).heap.size:=by rw [World.size_setCell];exact Nat.lt_of_lt_of_le hs2 hb3.size
  clear c0 c1 c2 c3 c4 c5 c6 cL hr2 hL1 hO1 hO2 hb3 hb2 hk2 hL2 cL2 fL2 hs2
  generalize w2.setCell ⟨lb,0,none⟩ (.slice (some ⟨g2,0,none⟩) H.length cap2)=V4 at *
  refine reaR_split hD (reaR_go goodF hD (by kernel_rfl) sfW fun R hR τ d => ?_)
  replace hL3:Boxed { V4 with tape:=τ,drawn:=d } lb 33 _:=hL3
  replace hO3:OwnB v.heap.size { V4 with tape:=τ,drawn:=d } _ _:=hO3
  replace hr3:RowAt { V4 with tape:=τ,drawn:=d } v.heap.size _ 36:=hr3
  replace hb4:Kept v { V4 with tape:=τ,drawn:=d }:=hb4.tape τ d
  replace hs3:lb < ({ V4 with tape:=τ,drawn:=d }:World).heap.size:=hs3
  generalize ({ V4 with tape:=τ,drawn:=d }:World)=V5 at *
  have cL:=hL3.cell
  have hM5:=hb4.byt hman
  obtain ⟨M4,eM4⟩:∃ M4,H++man=M4:=⟨_,rfl⟩
  have hM4:Hid (H++man=M4):=eM4
  have hM4l:Hid (M4.length=32+ml):=by
    show _=_
    rw [← eM4,List.length_append,hHl.out,hml]
  rw [eM4] at hnext
  clear eM4
  go_wp2_with (first | (at_builtin;refine wpList_append_own _ rfl _ _ 33 rfl v.heap.size 5 i0 (.int .u8 0) 1 1 Tryz.underlying33 hi0 hz0 hz1 hz2 rfl (by decide) _ _ _ rfl hO3 ⟨gm,0,none⟩ ml capm (u8V man) rfl (by rw [u8V_length];omega) hM5.news (u8V_one _) (by have:=hHl.out;unfold maxLen;omega) (by have:=hHl.out;omega) hb4.size ?_;intro v4 w4 hown4 hgrow4 _;have hO4:OwnB v.heap.size w4 v4 M4:=hM4.out ▸ OwnB.more hown4 rfl;have hk4:=hO3.keeps hgrow4;have hb5:=hb4.below (hO3.grown hgrow4 hb4.size);obtain ⟨g4,cap4,e4,_,_,_,_,_⟩:=owns_byt hO4 (by have:=hM4l.out;omega);rw [hM4l.out] at e4;subst e4;have hL4:Boxed w4 lb 33 _:=hk4.same _ _ hL3 rfl;have cL4:=hL4.cell;have fL4:=hL4.frozen))
  have hr5:=(hr3.keep hk4 (by decide)).setO (lb:=lb) (by omega) (.slice (some ⟨g4,0,none⟩) (32+ml) cap4)
  have hO5:=hO4.set hL4 (.slice (some ⟨g4,0,none⟩) (32+ml) cap4)
  have hL5:=hL4.set (.slice (some ⟨g4,0,none⟩) (32+ml) cap4)
  have hb6:Kept v (w4.setCell ⟨lb,0,none⟩ (.slice (some ⟨g4,0,none⟩) (32+ml) cap4)):=hb5.below ((Below.refl v.heap.size w4).setCell (p:=⟨lb,0,none⟩) (by show v.heap.size≤lb;omega) _)
  refine reaR_split hD (hnext _ lb g4 cap4 _ (twr_mk rfl) (by omega) (by rw [World.size_setCell];exact Nat.lt_of_lt_of_le hs3 hk4.size) hL5 hO5 hr5 hb6)
end
noncomputable def qw5:{x:Array Oper // x=gOps (gFst wC5)}:=⟨_,by (simp only [wC5,wBody,gFst,gSnd,gOps,Tryz.f25,Option.getD_some];rfl)⟩
noncomputable def qw9:{x:Array Oper // x=gOps (gFst wRest)}:=⟨_,by (simp only [wRest,wBody,gFst,gSnd,gOps,Tryz.f25,Option.getD_some];rfl)⟩
noncomputable def wO5:Array Oper:=qw5.1
noncomputable def wO9:Array Oper:=qw9.1
noncomputable def wAs:Code:=gAs (gIn (gSnd wC5))
noncomputable def wBd:Code:=gRd (gIn (gSnd wC5))
theorem wC5_eq:wC5 = .seq (.region 5 wO5 false) (.block 0 (.rangeFunc (.tmp 43) #[44] wAs wBd)):=by kernel_rfl
theorem wRest_eq:wRest = .seq (.region 9 wO9 false) .ret:=by kernel_rfl
theorem wO5_size:wO5.size=5:=by kernel_rfl
def TWx (row lb:Nat) (x:Value) (T:Array Value):Prop:=∃ f:Nat→Value,T = #[f 0,f 1,.pointer (some ⟨row,0,none⟩),f 3,f 4,f 5,.pointer (some ⟨lb,0,none⟩),f 7,f 8,f 9,f 10,f 11,f 12,f 13,f 14,f 15,f 16,f 17,f 18,f 19,f 20,f 21,f 22,f 23,f 24,f 25,f 26,f 27,f 28,f 29,f 30,f 31,f 32,f 33,f 34,f 35,f 36,f 37,f 38,f 39,f 40,f 41,f 42,f 43,x,f 45,f 46,f 47,f 48,f 49,f 50,f 51,f 52]
theorem twx_mk {row lb:Nat} {x:Value} {T:Array Value} (h:T = #[T.getD 0 undef,T.getD 1 undef,.pointer (some ⟨row,0,none⟩),T.getD 3 undef,T.getD 4 undef,T.getD 5 undef,.pointer (some ⟨lb,0,none⟩),T.getD 7 undef,T.getD 8 undef,T.getD 9 undef,T.getD 10 undef,T.getD 11 undef,T.getD 12 undef,T.getD 13 undef,T.getD 14 undef,T.getD 15 undef,T.getD 16 undef,T.getD 17 undef,T.getD 18 undef,T.getD 19 undef,T.getD 20 undef,T.getD 21 undef,T.getD 22 undef,T.getD 23 undef,T.getD 24 undef,T.getD 25 undef,T.getD 26 undef,T.getD 27 undef,T.getD 28 undef,T.getD 29 undef,T.getD 30 undef,T.getD 31 undef,T.getD 32 undef,T.getD 33 undef,T.getD 34 undef,T.getD 35 undef,T.getD 36 undef,T.getD 37 undef,T.getD 38 undef,T.getD 39 undef,T.getD 40 undef,T.getD 41 undef,T.getD 42 undef,T.getD 43 undef,x,T.getD 45 undef,T.getD 46 undef,T.getD 47 undef,T.getD 48 undef,T.getD 49 undef,T.getD 50 undef,T.getD 51 undef,T.getD 52 undef]):TWx row lb x T:=⟨fun i=>T.getD i undef,h⟩
theorem twr_set {row lb:Nat} {T:Array Value} (h:TWr row lb T) (x:Value):TWx row lb x (T.setIfInBounds 44 x):=by
  obtain ⟨f,rfl⟩:=h
  exact twx_mk rfl
noncomputable def lpR (T:Array Value) (D:Nat) (s:LoopState):Loop:={ state:=s,pending:=none,fn:=25,tmps:=T,params:=#[44],assign:=wAs,body:=wBd,defers:=D }
structure LW (v:World) (lb sb nb D l:Nat) (ba:Option Addr) (len cap c:Nat) (M:List UInt8) (col:List UInt8) (T:Array Value) (st:LoopState) (j:Nat) (W:World):Prop where
  lst:∃ y,Boxed W lb 33 y∧OwnB v.heap.size W y (M++framesTo c col j)
  s:Boxed W sb 33 (.slice ba len cap)
  n:Boxed W nb 3 (.int .i64 (c:Int))
  lp:W.heap[l]? = some (.loop (lpR T D st))
  df:W.heap[D]? = some (.deferred (some []))
  kept:Kept v W
section
variable {v:World} {lb sb nb D l:Nat} {ba:Option Addr} {len cap c:Nat} {M col:List UInt8} {T:Array Value} {st st':LoopState} {j:Nat} {W:World}
theorem LW.tape (h:LW v lb sb nb D l ba len cap c M col T st j W) (τ:Nat→Question→Nat) (d:Nat):LW v lb sb nb D l ba len cap c M col T st j { W with tape:=τ,drawn:=d }:=⟨h.lst,h.s,h.n,h.lp,h.df,h.kept.tape τ d⟩
theorem boxed_put {W:World} {B r:Nat} {t:TypeId} {u:Value} {o:Obj} (h:Boxed W B t u) (hr:B≠r):Boxed (W.putObj r o) B t u:=(World.putObj_heap_other hr).trans h
theorem LW.put (h:LW v lb sb nb D l ba len cap c M col T st j W) (hv:v.heap.size≤l) (h1:lb≠l) (h2:sb≠l) (h3:nb≠l) (h4:D≠l):LW v lb sb nb D l ba len cap c M col T st' j (W.putObj l (.loop (lpR T D st'))):=by
  have hlt:=(Array.getElem?_eq_some_iff.1 h.lp).1
  obtain ⟨y,hy,hO⟩:=h.lst
  exact ⟨⟨y,boxed_put hy h1,ownsRow_putObj hO _ h.lp rfl⟩,boxed_put h.s h2,boxed_put h.n h3,World.putObj_heap_same hlt,(World.putObj_heap_other h4).trans h.df,⟨h.kept.os,h.kept.output,by rw [World.putObj_size];exact h.kept.size,fun b hb=>(World.putObj_heap_other (by omega)).trans (h.kept.block b hb)⟩⟩
end
section
variable {X:Nat→Prop} {Y:Nat→Option Obj} {D:Nat→World→Array Event→Prop} {Stop:Goroutine→World→Prop} {v:World} {cs:List Frame} {cfr:Frame}
set_option maxHeartbeats 8000000 in
set_option maxRecDepth 100000 in
theorem layRound (hD:Dok X D) {lb sb nb Df l b off len cap c row:Nat} {M col:List UInt8} {T:Array Value} {ba:Option Addr} (hTW:TWr row lb T) (hc:1≤c) (hc2:c≤65536) (hlen:len≤65536) (hcl:col.length=len) (hM:M.length≤2000000) (hT:Tab v) (hby:Byt v b off col)
    (hlb:v.heap.size < lb) (h1:lb < sb) (h2:sb < nb) (h3:nb < Df) (h4:Df < l) (hO:Ours X Y l) (j:Nat) (W:World) (hj:j*c < len) (hI:LW v lb sb nb Df l ba len cap c M col T .ready j W)
    (hnext:∀ v',LW v lb sb nb Df l ba len cap c M col T .ready (j+1) v' → ∀ w,SimT X Y w v' → GoesI Tryz.prog D Stop (G (cfr.finish (.bool true)) cs) w) :
    ReaR Tryz.prog X Y D Stop (some l) [] 25 (cfr :: cs) [.code wAs,.beginRound,.code wBd] (T.setIfInBounds 44 (frameV b off len c j)) W:=by
  obtain ⟨i0,hi0,hz0,hz1,hz2⟩:=info_parts infoB8
  obtain ⟨f,hTx⟩:=twr_set hTW (frameV b off len c j)
  rw [hTx]
  clear hTx
  unfold wAs wC5 wBody
  simp only [gAs,gIn,gFst,gSnd,Tryz.f25,Option.getD_some]
  refine reaR_go goodF hD (by kernel_rfl) sfW fun R hR τ d => ?_
  go_wp2
  change ReaR _ _ _ _ _ _ _ _ _ _ _ W
  refine reaR_begin hD hI.lp rfl hO ?_
  change ReaR _ _ _ _ _ _ _ _ _ _ _ (W.putObj l (.loop (lpR T Df .busy)))
  have hI1:LW v lb sb nb Df l ba len cap c M col T .busy j (W.putObj l (.loop (lpR T Df .busy))):=hI.put (by omega) (by omega) (by omega) (by omega) (by omega)
  clear hI
  generalize W.putObj l (.loop (lpR T Df .busy))=W1 at *
  unfold wBd wC5 wBody
  simp only [gRd,gIn,gFst,gSnd,Tryz.f25,Option.getD_some]
  refine reaR_go goodF hD (by kernel_rfl) sfW fun R hR τ d => ?_
  replace hI1:=hI1.tape τ d
  generalize ({ W1 with tape:=τ,drawn:=d }:World)=W2 at *
  obtain ⟨⟨y,hv,hO1⟩,hsB,hnB,hlp,hdf,hK⟩:=hI1
  have hjn:j < nFr c len:=(nFr_lt hc).2 hj
  have hLb:(M++framesTo c col j).length≤10000000000:=by
    have h5:(framesTo c col j).length≤j*(c+8):=by
      have:=LL_length [] c col (len:=len) ((List.range j).attach.map fun x=>⟨x.1,by
        have:=List.mem_range.1 x.2
        exact (nFr_lt hc).1 (by omega)⟩)
      rw [LL_all [] c col _ j (by simp [List.map_map,Function.comp_def])] at this
      simpa using this
    have h6:j*1≤j*c:=Nat.mul_le_mul_left _ hc
    have h7:j*(c+8)≤65536*(65536+8):=Nat.mul_le_mul (by omega) (by omega)
    rw [List.length_append]
    omega
  have hTW2:Tab W2:=hK.tab hT
  have hpos:2 < v.heap.size:=hT.1
  have hfB:Hid (frameB c col j=sealB (part col (j*c) (min c (len - j*c)))):=by
    show _=_
    unfold frameB
    rw [hcl]
  have LS:Hid (M++framesTo c col (j+1)=(M++framesTo c col j)++frameB c col j):=by
    show _=_
    rw [framesTo_succ,List.append_assoc]
  have hfl:(part col (j*c) (min c (len - j*c))).length=min c (len - j*c):=part_length (by omega)
  have hfv:Byt v b (off+j*c) (part col (j*c) (min c (len - j*c))):=hby.part (by omega)
  have hfr:=hK.byt hfv
  have hbb:b < v.heap.size:=cell_lt (hby 0 (by omega))
  unfold frameV
  obtain ⟨L,eL⟩:∃ L,M++framesTo c col j=L:=⟨_,rfl⟩
  obtain ⟨p,ep⟩:∃ p,j*c=p:=⟨_,rfl⟩
  simp only [eL,ep] at hO1 hLb LS hfB hfl hfr hfv hj ⊢
  obtain ⟨m,em⟩:∃ m,min c (len - p)=m:=⟨_,rfl⟩
  have hm1:1≤m:=by omega
  have hm2:m≤65536:=by omega
  simp only [em] at hfB hfl hfr hfv ⊢
  obtain ⟨fr,efr⟩:∃ fr,part col p m=fr:=⟨_,rfl⟩
  simp only [efr] at hfB hfl hfr hfv
  clear eL ep em efr
  have hc0:=hv.cell
  have hfin:∀ (W3:World) (y3:Value) (L3:List UInt8),Hid (L3=L++frameB c col j)→Boxed W3 lb 33 y3→OwnB v.heap.size W3 y3 L3→Boxed W3 sb 33 (.slice ba len cap)→Boxed W3 nb 3 (.int .i64 (c:Int))→W3.heap[l]? = some (.loop (lpR T Df .busy))→W3.heap[Df]? = some (.deferred (some []))→Kept v W3→∀ T',ReaR Tryz.prog X Y D Stop (some l) [] 25 (cfr :: cs) [] T' W3:=fun W3 y3 L3 e a1 a2 a3 a4 a5 a6 a7 T'=>
    reaR_end hD a5 hO (hnext _ (LW.put ⟨⟨y3,a1,by rw [LS.out,← e.out];exact a2⟩,a3,a4,a5,a6,a7⟩ (by omega) (by omega) (by omega) (by omega) (by omega)))
  clear hnext
  go_wp2_with (first
    | (at_builtin;refine wpList_append_own _ rfl _ _ 33 rfl v.heap.size 5 i0 (.int .u8 0) 1 1 Tryz.underlying33 hi0 hz0 hz1 hz2 rfl (by decide) _ _ _ rfl hO1 ⟨b,off+p,none⟩ m m (u8V fr) rfl (by rw [u8V_length];omega) hfr.news (u8V_one _) (by unfold maxLen;omega) (by omega) hK.size ?_;intro v1 w1 hown1 hgrow1 _;have hO2:OwnB v.heap.size w1 v1 (L++fr):=OwnB.more hown1 rfl;have hk1:=hO1.keeps hgrow1;have hK1:=hK.below (hO1.grown hgrow1 hK.size);obtain ⟨L1,eL1⟩:∃ L1,L++fr=L1:=⟨_,rfl⟩;have EL1:Hid (L++fr=L1):=eL1;have hL1b:L1.length≤20000000000:=(by rw [← eL1,List.length_append];omega);have hL1p:0 < L1.length:=(by rw [← eL1,List.length_append];omega);rw [eL1] at hO2;clear eL1;obtain ⟨g1,cap1,rfl,_,_,_,_,_⟩:=owns_byt hO2 hL1p;have hv1:Boxed w1 lb 33 _:=hk1.same _ _ hv rfl;have e1:=hv1.cell;have e2:=hv1.frozen
       have hO3:=hO2.set hv1 (.slice (some ⟨g1,0,none⟩) L1.length cap1);have hv2:=hv1.set (.slice (some ⟨g1,0,none⟩) L1.length cap1);have hK2:=hK1.below ((Below.refl v.heap.size w1).setCell (p:=⟨lb,0,none⟩) (by show v.heap.size≤lb;omega) (.slice (some ⟨g1,0,none⟩) L1.length cap1));have hs2:=Boxed.other (hk1.same _ _ hsB rfl:Boxed w1 sb 33 _) (B':=lb) (by omega) (.slice (some ⟨g1,0,none⟩) L1.length cap1);have hn2:=Boxed.other (hk1.same _ _ hnB rfl:Boxed w1 nb 3 _) (B':=lb) (by omega) (.slice (some ⟨g1,0,none⟩) L1.length cap1);have hlp2:=(KeepsOthers.setCell w1 ⟨lb,0,none⟩ (.slice (some ⟨g1,0,none⟩) L1.length cap1)).same _ _ (hk1.same _ _ hlp rfl) rfl;have hdf2:=(KeepsOthers.setCell w1 ⟨lb,0,none⟩ (.slice (some ⟨g1,0,none⟩) L1.length cap1)).same _ _ (hk1.same _ _ hdf rfl) rfl
       have hf2:=hK2.byt hfv;have K2:=appSum_any v.heap.size _ L1 (by omega) _ hO3 hK2.size b (off+p) m fr (by omega) hf2 (hK2.tab hT);rw [hfl] at K2;clear hown1 hgrow1 hO2 hk1 hfr)
    | (go_at_call 49;(with_reducible refine K2.mono ?_);clear K2;rintro r w3 ⟨v3,rfl,hO4,hb3,hk3⟩;obtain ⟨L3,eL3⟩:∃ L3,L1++leB 8 (sumOf fr)=L3:=⟨_,rfl⟩;have EL3:Hid (L1++leB 8 (sumOf fr)=L3):=eL3;have hL3p:0 < L3.length:=(by rw [← eL3,List.length_append];omega);rw [eL3] at hO4;clear eL3;obtain ⟨g3,cap3,rfl,_,_,_,_,_⟩:=owns_byt hO4 hL3p;have hv3:Boxed w3 lb 33 _:=hk3.same _ _ hv2 rfl;have e3:=hv3.cell;have e4:=hv3.frozen))
  refine hfin _ _ L3 ?_ (hv3.set _) (hO4.set hv3 _) (Boxed.other (hk3.same _ _ hs2 rfl:Boxed w3 sb 33 _) (by omega) _) (Boxed.other (hk3.same _ _ hn2 rfl:Boxed w3 nb 3 _) (by omega) _) ((KeepsOthers.setCell w3 _ _).same _ _ (hk3.same _ _ hlp2 rfl) rfl) ((KeepsOthers.setCell w3 _ _).same _ _ (hk3.same _ _ hdf2 rfl) rfl) ((hK2.below hb3).below ((Below.refl v.heap.size w3).setCell (p:=⟨lb,0,none⟩) (by show v.heap.size≤lb;omega) _)) _
  show L3=_
  rw [hfB.out,← EL3.out,← EL1.out]
  unfold sealB
  rw [List.append_assoc]
end
end Go.Proofs.YtkpcmfgeanlcnabGreatDoor
