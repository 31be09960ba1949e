/-
  The data cut in pieces of one length, filled up with noughts: run alone.
-/
import Derived.Test.YtkpcmfgeanlcnabGreatDoorWrC
import Derived.Test.YtkpcmfgeanlcnabGreatDoorSame
import Derived.Laws.CopyRow
import Derived.Test.YtkpcmfgeanlcnabGreatDoorLfM
import Derived.Handed
import Derived.Leaving
import Derived.Test.YtkpcmfgeanlcnabGreatDoorProg
import Derived.KernelRfl
import Derived.Conc.CompanyMem
import Derived.Test.YtkpcmfgeanlcnabGreatDoorGhD
import Derived.Below
import Derived.Laws.World
namespace Go.Proofs.YtkpcmfgeanlcnabGreatDoor
open Go.RowKit Go.Deep
theorem row_set_heap {w:World} {N:Nat} {c:Array Value} {t:TypeId} (c':Array Value) (h:w.heap[N]? = some (.cells c t)):(w.setRow N c').heap[N]? = some (.cells c' t):=by
  simp [World.setRow,Array.getElem?_modify,h]
theorem row_set_other (w:World) {N b:Nat} (c':Array Value) (h:b≠N):(w.setRow N c').heap[b]? = w.heap[b]?:=by
  simp [World.setRow,Array.getElem?_modify,Ne.symm h]
theorem row_set_size (w:World) (N:Nat) (c':Array Value):(w.setRow N c').heap.size=w.heap.size:=by simp [World.setRow]
structure Pieces (w:World) (k L P F:Nat) (l:List UInt8) (w':World):Prop where
  list:w'.rowIs P 33 k (fun j=>.slice (some ⟨F,j*L,none⟩) L (k*L - j*L))
  row:w'.rowIs F 5 (k*L) (fun j=>.int .u8 ((bAt l j:Nat):Int))
  lo:w.heap.size≤P∧w.heap.size≤F
  bel:Below w.heap.size w w'
theorem copy_run (w:World) (F n:Nat) (vd:Value) (l:List UInt8) (hv:Lies w vd (u8V l)) (hn:l.length≤n) (hF:w.rowIs F 5 n (fun _=>.int .u8 0)) :
    ∃ w',(Builtin.copy_ #[33,33] 3 #[.slice (some ⟨F,0,none⟩) n n,vd]).run Tryz.prog w = .ok (goInt l.length) w' ∧ w'.rowIs F 5 n (fun j=>.int .u8 ((bAt l j:Nat):Int))∧(∀ b,b≠F→w'.heap[b]? = w.heap[b]?)∧w'.heap.size=w.heap.size∧w'.os=w.os∧w'.tape=w.tape∧w'.output=w.output:=by
  obtain ⟨cur,hc1,hc2,hc3⟩:=hF
  obtain ⟨i0,hi,_,hz1,_⟩:=info_parts Tryz.infoB
  have hsz:(Tryz.prog.info? 5).map (·.size)=some 1:=by rw [hi];simp [hz1]
  obtain ⟨ba,cap,rfl,hle,hcell⟩:=hv
  rcases Nat.eq_zero_or_pos l.length with h0 | h0
  · obtain rfl:l=[]:=List.eq_nil_of_length_eq_zero h0
    refine ⟨w,?_,⟨cur,hc1,hc2,fun i hi=>by rw [hc3 i hi];rfl⟩,fun _ _=>rfl,rfl,rfl,rfl,rfl⟩
    cases ba <;> simp [u8V,Builtin.copy_,run_underlying Tryz.underlying33,Builtin.lenOf,Builtin.firstCells,sizeOf,typeInfo,hi,loadCells,loadCellsFrom,storeCells]
  · obtain ⟨b,off,rfl,_⟩:=hcell 0 ((u8V l)[0]'(by simpa [u8V] using h0)) (by simp)
    have hsrc:∀ j v,(u8V l)[j]? = some v→w.cell? ((⟨b,off,none⟩:Addr).add j)=some v:=fun j v hj=>by
      obtain ⟨b',off',e,h⟩:=hcell j v hj
      cases e
      rw [show (⟨b,off,none⟩:Addr).add j=⟨b,off+j,none⟩ from by unfold Addr.add;by_cases h:j=0 <;> simp [h]]
      exact h
    have hl:(u8V l).length=l.length:=by simp [u8V]
    have hrun:=run_copy_row Tryz.prog w 33 33 3 5 F 0 n n ⟨b,off,none⟩ (u8V l).length cap cur 5 (u8V l) Tryz.underlying33 hsz hc1 (by rw [hl];exact (Nat.min_eq_left hn).symm) hsrc (by rw [hl,hc2];omega) (u8V_one l)
    rw [hl] at hrun
    refine ⟨_,by rw [hl];exact hrun,⟨_,row_set_heap _ hc1,?_,fun i hi => ?_⟩,fun b hb=>row_set_other w _ hb,row_set_size _ _ _,rfl,rfl,rfl⟩
    · simp [hc2,hl]
      omega
    · simp only [List.take_zero,List.nil_append,Nat.zero_add]
      rw [List.getElem?_toArray]
      by_cases h:i < l.length
      · rw [List.getElem?_append_left (by rw [hl];exact h),u8V_get h]
      · rw [List.getElem?_append_right (by rw [hl];omega),List.getElem?_drop,hl,show l.length+(i - l.length)=i by omega,Array.getElem?_toList,hc3 i hi]
        simp [bAt,List.getD_eq_getElem?_getD,List.getElem?_eq_none (show l.length≤i by omega)]
set_option maxHeartbeats 2000000 in
set_option maxRecDepth 100000 in
theorem cut_any (k:Nat) (hk0:1≤k) (hk:k≤128) (vd:Value) (l:List UInt8) (hl:l.length≤65536) (w:World) (hv:Lies w vd (u8V l)) :
    Calls Tryz.prog 61 #[.int .i64 ((k:Nat):Int),vd] w fun e w'=>∃ P F,e = .returned (.slice (some ⟨P,0,none⟩) k k)∧Pieces w k (lenC k l.length) P F l w':=by
  have c1:=clength_any (k:Int) (l.length:Int) k l.length rfl rfl hk0 (by omega) hl
  have hL1:lenC k l.length*k < l.length+k:=by unfold lenC;have:=Nat.div_mul_le_self (l.length+k - 1) k;omega
  have hL2:l.length≤k*lenC k l.length:=by
    unfold lenC
    have:=Nat.lt_div_mul_add (a:=l.length+k - 1) (b:=k) (by omega)
    rw [Nat.mul_comm]
    omega
  have hLb:lenC k l.length≤65536:=by
    unfold lenC
    exact Nat.div_le_of_le_mul (by have:=Nat.mul_le_mul hk0 (Nat.le_refl 65536);omega)
  generalize hL:lenC k l.length=L at *
  have hkL:k*L≤65536+128:=by rw [Nat.mul_comm];omega
  have hlv:∃ ba cap,vd = .slice ba l.length cap:=by obtain ⟨ba,cap,rfl,_⟩:=hv;exact ⟨ba,cap,by simp [u8V]⟩
  have hm1:∀ w:World,(Instr.makeSlice 33 (.int .i64 ((k*L:Nat):Int)) (.int .i64 ((k*L:Nat):Int))).run Tryz.prog w = .ok (.slice (some ⟨w.heap.size,0,none⟩) (k*L) (k*L)) (w.alloc (.cells (madeCells #[.int .u8 0] (k*L)) 5)):=
    fun w=>run_make_row' (P:=Tryz.prog) 33 5 (.int .u8 0) 1 Tryz.underlying33 Tryz.infoB rfl .i64 .i64 (k*L) (by omega) (by omega) w
  have hmul:((k:Nat):Int)*((L:Nat):Int)=((k*L:Nat):Int):=by simp
  have z1:=World.rowIs_made w (.int .u8 0) (k*L) 5
  have b1:Below w.heap.size w (w.alloc (.cells (madeCells #[.int .u8 0] (k*L)) 5)):=(Below.refl _ _).alloc (Nat.le_refl _) _
  have s1:(w.alloc (.cells (madeCells #[.int .u8 0] (k*L)) 5)).heap.size=w.heap.size+1:=by simp
  obtain ⟨w2,hcp,r2,o2,s2,h2a,h2b,h2c⟩:=copy_run _ w.heap.size (k*L) vd l (hv.below b1) hL2 z1
  have b2:Below w.heap.size w w2:=⟨h2a,h2b,h2c,by omega,fun b hb=>by rw [o2 b (by omega)];exact b1.block b hb⟩
  have hm1w:=hm1 w
  have m2:=make_lists k hk w2
  have z2:=World.rowIs_made w2 (.slice none 0 0) k 33
  have b3:Below w.heap.size w (w2.alloc (.cells (madeCells #[.slice none 0 0] k) 33)):=b2.alloc (by omega) _
  have r3:=r2.alloc (.cells (madeCells #[.slice none 0 0] k) 33)
  have hs2:w2.heap.size=w.heap.size+1:=by omega
  rw [hs2] at m2 z2
  generalize madeCells #[.int .u8 0] (k*L)=Z1 at *
  generalize madeCells #[.slice none 0 0] k=Z2 at *
  obtain ⟨ba,cap,rfl⟩:=hlv
  generalize hl':l.length=n at *
  have hLk:L*k=k*L:=Nat.mul_comm _ _
  clear hm1 s1 o2 s2 h2a h2b h2c z1 b1 hv hmul
  have hmul:((k:Nat):Int)*((L:Nat):Int)=((k*L:Nat):Int):=by simp
  generalize hKL:k*L=kL at *
  go_enter Tryz.func61,Tryz.ntmps61
  go_wp2_with (first | (go_at_call 44;(with_reducible refine (c1 _).mono ?_);rintro e w' ⟨rfl,hw'⟩;obtain rfl:=hw'.symm))
  clear hcp hm1w m2 c1
  have hne:w.heap.size+1≠w.heap.size:=by omega
  generalize w2.alloc (Obj.cells Z2 33)=w3 at *
  clear r2 b2
  go_loopw [8,24] (fun _ vi wr=>∃ j:Nat,j≤k∧vi = .int .i64 ((j:Nat):Int)∧wr.rowIs (w.heap.size+1) 33 k (fun i=>if i < j then .slice (some ⟨w.heap.size,i*L,none⟩) L (kL - i*L) else .slice none 0 0)∧wr.rowIs w.heap.size 5 kL (fun j=>.int .u8 ((bAt l j:Nat):Int))∧Below w.heap.size w wr) (fun _ i _=>k - (intOf i).toNat)
  case atStart=>exact ⟨0,by omega,rfl,z2.congr fun i _=>by rw [if_neg (by omega)],r3,b3⟩
  case round=>
    obtain ⟨j,hj,rfl,hR,hr,hb⟩:=hrel
    by_cases hlt:j < k
    · have hlt':(j:Int) < (k:Int):=by omega
      have hjL:j*L+L≤kL:=by rw [← hKL,← Nat.succ_mul];exact Nat.mul_le_mul_right L hlt
      have hm1:((j:Nat):Int)*((L:Nat):Int)=((j*L:Nat):Int):=by simp
      have hm2:(((j:Nat):Int)+1)*((L:Nat):Int)=((j*L+L:Nat):Int):=by rw [Int.add_mul];simp
      have g0:=hR.cell hlt
      rw [if_neg (by omega)] at g0
      have g1:=hR.frozen j
      have hR2:=(hR.set j (.slice (some ⟨w.heap.size,j*L,none⟩) L (kL - j*L))).congr (g:=fun i=>if i < j+1 then .slice (some ⟨w.heap.size,i*L,none⟩) L (kL - i*L) else .slice none 0 0) (fun i _=>by
        by_cases e:i=j
        · subst e;rw [if_pos rfl,if_pos (by omega)]
        · rw [if_neg e]
          by_cases e2:i < j
          · rw [if_pos e2,if_pos (by omega)]
          · rw [if_neg e2,if_neg (by omega)])
      have hr2:=hr.setOther (a:=⟨w.heap.size+1,j,none⟩) (by show w.heap.size≠w.heap.size+1;omega) (.slice (some ⟨w.heap.size,j*L,none⟩) L (kL - j*L))
      have hb2:=hb.setCell (p:=⟨w.heap.size+1,j,none⟩) (by show w.heap.size≤w.heap.size+1;omega) (.slice (some ⟨w.heap.size,j*L,none⟩) L (kL - j*L))
      clear hR hr hb z2 r3 b3
      have hif:kL=j*L→j*L=0:=fun e=>by
        have:L=0:=by omega
        rw [this,Nat.mul_zero]
      generalize hjl:j*L=jL at *
      have hif2:(if kL=jL then some (⟨w.heap.size,0,none⟩:Addr) else some ⟨w.heap.size,jL,none⟩)=some ⟨w.heap.size,jL,none⟩:=by
        by_cases e:kL=jL
        · rw [if_pos e,hif e]
        · rw [if_neg e]
      clear hif
      have d1:(jL:Int)≤((jL+L:Nat):Int):=by omega
      have d2:((jL+L:Nat):Int)≤(kL:Int):=by omega
      have d3:jL+L - jL=L:=by omega
      go_wp2
      go_roundw
      case rel=>exact ⟨j+1,by omega,by go_num,hR2,hr2,hb2⟩
      case measure=>simp [intOf];omega
    · obtain rfl:j=k:=by omega
      have hnl:¬ ((j:Int) < (j:Int)):=by omega
      go_wp2
      go_ret
      rw [← hKL] at hr
      exact ⟨w.heap.size+1,rfl,w.heap.size,hR.congr fun i hi=>by rw [if_pos hi,hKL],hr,⟨by omega,Nat.le_refl _⟩,hb⟩
end Go.Proofs.YtkpcmfgeanlcnabGreatDoor
namespace Go.Lf
open Go.Conc
end Go.Lf
namespace Go.Proofs.YtkpcmfgeanlcnabGreatDoor
open Go.Lf
def tameL:List FuncId:=[61,44,29,18,30,31,32,33,58,59,86,87,19,34,35,60,50,26,51,49,47,72,37,10,7,17,8,13,117,66,102,118,138,137,101,127,139,103,128]
def tame (f:FuncId):Bool:=tameL.contains f
noncomputable def goodOne (f:FuncId):Bool:=match Tryz.prog.funcs[f]? with
  | none=>false
  | some fn => !(fn.name == "runtime.NumGoroutine") && match fn.body with
    | none=>false
    | some c=>okCode Tryz.prog tame c
theorem goodL:tameL.all goodOne=true:=by kernel_rfl
theorem goodF:GoodF Tryz.prog tame:=by
  intro f hf
  have h:=List.all_eq_true.1 goodL f (by simpa [tame] using hf)
  unfold goodOne at h
  split at h
  · cases h
  · rename_i fn hfn
    rw [Bool.and_eq_true] at h
    obtain ⟨h1,h2⟩:=h
    split at h2
    · cases h2
    · rename_i c hc
      exact .inl ⟨fn,c,[],hfn,by simpa using h1,hc,h2,fun x hx=>by simp at hx⟩
end Go.Proofs.YtkpcmfgeanlcnabGreatDoor
namespace Go.Gh
open Go.Conc
section
variable {P:Program} {main:Bool} {R:World→World→Prop} {D:World→World→Array Event→Prop} {fn:FuncId} {ops:Array Oper} {Q:Exit→Act→World→Prop} {S:World→Prop} {nf lst:Nat}
def OpX (P:Program) (main:Bool) (R:World→World→Prop) (D:World→World→Array Event→Prop) (fn:FuncId) (ops:Array Oper) (nf i:Nat) (K:Act→World→Prop) (a:Act) (w:World):Prop:=
  ∃ o,ops[i]? = some o ∧
    ((Region.wanted o (yielded ops a.tmps)=true∧∀ w₁,R w w₁→uponK o a (fun a' w'=>D w₁ w' (listed P fn a o w₁)∧K a' w') ((execOp a.eval o).run P w₁)) ∨
     (Region.wanted o (yielded ops a.tmps)=true∧∃ f args ats Post,o.op = .call { callee:=.value (.func f),args,argTypes:=ats } ∧ CallsC P main R D f (args.map a.eval) nf w Post∧∀ v w',Post v w' → K (a.put o.dst v) w') ∨
     (Region.wanted o (yielded ops a.tmps)=false∧K (a.put o.dst undef) w))
theorem OpX.mono {i:Nat} {K K':Act→World→Prop} {a:Act} {w:World} (hK:∀ a w,K a w→K' a w) (h:OpX P main R D fn ops nf i K a w):OpX P main R D fn ops nf i K' a w:=by
  obtain ⟨o,ho,h⟩:=h
  refine ⟨o,ho,?_⟩
  rcases h with ⟨hw,h⟩ | ⟨hw,f,args,ats,Post,h1,h2,h3⟩ | ⟨hw,h⟩
  · exact .inl ⟨hw,fun w₁ r=>uponK_mono (fun _ _ x=>⟨x.1,hK _ _ x.2⟩) (h w₁ r)⟩
  · exact .inr (.inl ⟨hw,f,args,ats,Post,h1,h2,fun v w' p=>hK _ _ (h3 v w' p)⟩)
  · exact .inr (.inr ⟨hw,hK _ _ h⟩)
def AnyX (P:Program) (main:Bool) (R:World→World→Prop) (D:World→World→Array Event→Prop) (fn:FuncId) (ops:Array Oper) (nf:Nat) (Q:Exit→Act→World→Prop) (S:World→Prop) (lst:Nat):Nat→Array Bool→Act→World→Prop
  | 0,l,a,w=>Region.ready .any ops l=[]∧Q .normal a w
  | k+1,l,a,w=>(Region.ready .any ops l=[]→Q .normal a w) ∧
    ∀ i∈Region.ready .any ops l,OpX P main R D fn ops nf i (fun a' w'=>(i≠lst→S w')∧AnyX P main R D fn ops nf Q S lst k (l.setIfInBounds i true) a' w') a w
theorem opsC_of_opX (T:Terms R D) {i:Nat} {rest:List Nat} {m:Nat} {a:Act} {w:World} (h:OpX P main R D fn ops nf i (fun a' w'=>OpsC P main R D fn ops rest m Q a' w') a w):OpsC P main R D fn ops (i :: rest) (m+nf+3) Q a w:=by
  obtain ⟨o,ho,h⟩:=h
  rcases h with ⟨hw,h⟩ | ⟨hw,f,args,ats,Post,h1,h2,h3⟩ | ⟨hw,h⟩
  · exact opsC_more (opsC_cons ho hw h) (by omega)
  · exact opsC_call T ho hw h1 h2 h3
  · exact opsC_more (opsC_unwanted T ho hw h) (by omega)
theorem anyX_sound (T:Terms R D):∀ (k t:Nat) (l:Array Bool) (a:Act) (w:World),AnyX P main R D fn ops nf Q S lst k l a w→OpsC P main R D fn ops (Region.linearise.go .any ops k t l []) (k*(nf+3)+1) Q a w
  | 0,t,l,a,w,h=>by simpa [Region.linearise.go] using opsC_nil T h.2
  | k+1,t,l,a,w,h=>by
    obtain ⟨h0,h1⟩:=h
    have e:(k+1)*(nf+3)+1=(k*(nf+3)+1)+nf+3:=by rw [Nat.succ_mul];omega
    simp only [Region.linearise.go]
    change OpsC P main R D fn ops (match (Region.ready .any ops l)[t % (Region.ready .any ops l).length]? with
      | some i=>Region.linearise.go .any ops k (t / (Region.ready .any ops l).length) (l.setIfInBounds i true) [i]
      | none=>[].reverse) ((k+1)*(nf+3)+1) Q a w
    cases hi:(Region.ready .any ops l)[t % (Region.ready .any ops l).length]? with
    | none=>
      have hnil:Region.ready .any ops l=[]:=by
        cases hr:Region.ready .any ops l with
        | nil=>rfl
        | cons x xs=>
          rw [hr,List.getElem?_eq_none_iff] at hi
          have:=Nat.mod_lt t (show 0 < (x :: xs).length by simp)
          omega
      exact opsC_more (by simpa using opsC_nil T (h0 hnil)) (by omega)
    | some i=>
      simp only []
      rw [linearise_go_acc,List.reverse_singleton,List.singleton_append,e]
      exact opsC_of_opX T (OpX.mono (fun a' w' x=>anyX_sound T k _ _ a' w' x.2) (h1 i (List.mem_of_getElem? hi)))
theorem OpX.swap {j:Nat} {oi oj:Oper} {v:Value} (hj:ops[j]? = some oj) (hap:oi.apart ops oj=true) (hsi:∀ cs b,oi.op ≠ .select cs b) (hsj:∀ cs b,oj.op ≠ .select cs b) {K:Act→World→Prop} {a:Act} {w:World}
    (hy:YieldsIfC P D fn ops S oi v a) (h:OpX P main R D fn ops nf j K (a.put oi.dst v) w):OpX P main R D fn ops nf j (fun a' w'=>YieldsIfC P D fn ops S oi v a' ∧ K (a'.put oi.dst v) w') a w:=by
  obtain ⟨h1,h2,h3⟩:=Oper.apart_spec hap
  have keep:∀ u,YieldsIfC P D fn ops S oi v (a.put oj.dst u):=fun u=>hy.of_same (execOp_put oi hsi a oj.dst u h3) (wanted_put oi a oj.dst u h3)
  obtain ⟨o,ho,h⟩:=h
  obtain rfl:oj=o:=by rw [hj] at ho;exact Option.some.inj ho
  refine ⟨oj,hj,?_⟩
  rw [wanted_put oj a oi.dst v h1] at h
  have hex:execOp (a.put oi.dst v).eval oj=execOp a.eval oj:=execOp_put oj hsj a oi.dst v h1
  rcases h with ⟨hw,h⟩ | ⟨hw,f,args,ats,Post,e1,e2,e3⟩ | ⟨hw,h⟩
  · refine .inl ⟨hw,fun w₁ r => ?_⟩
    have h:=h w₁ r
    unfold listed at h ⊢
    rw [hex] at h
    generalize (execOp a.eval oj).run P w₁=res at h ⊢
    cases res with
    | halt x w'=>simp only [uponK] at h
    | ok x w'=>
      cases x <;> simp only [uponK] at h ⊢
      · rename_i u;exact ⟨h.1,keep u,by rw [← Act.put_comm a v u h2];exact h.2⟩
      · exact ⟨h.1,keep _,by rw [← Act.put_comm a v undef h2];exact h.2⟩
  · refine .inr (.inl ⟨hw,f,args,ats,Post,e1,?_,fun u w' p=>⟨keep u,by rw [← Act.put_comm a v u h2];exact e3 u w' p⟩⟩)
    have ea:args.map (a.put oi.dst v).eval=args.map a.eval:=by
      refine Array.map_congr_left fun x hx=>Act.eval_put fun d hd hxd=>h1 d hd ?_
      subst hxd
      refine List.mem_append_left _ (List.mem_filterMap.2 ⟨.tmp d,?_,rfl⟩)
      rw [e1]
      simp [Op.operands,Call.operands,hx]
    rw [ea] at e2
    exact e2
  · exact .inr (.inr ⟨hw,keep _,by rw [← Act.put_comm a v undef h2];exact h⟩)
theorem YieldsIfC.opX (hSR:∀ x y,S x→R x y→S y) {i:Nat} {o:Oper} {v:Value} {a:Act} (hi:ops[i]? = some o) (hy:YieldsIfC P D fn ops S o v a) {K:Act→World→Prop} (hK:∀ a x y,K a x→R x y→K a y) {w:World} (hS:S w) (h:K (a.put o.dst v) w) :
    OpX P main R D fn ops nf i K a w:=by
  refine ⟨o,hi,?_⟩
  rcases hy with ⟨hw,hv⟩ | ⟨hw,rfl⟩
  · refine .inl ⟨hw,fun w₁ r => ?_⟩
    rw [(hv w₁ (hSR _ _ hS r)).1]
    exact ⟨(hv w₁ (hSR _ _ hS r)).2,hK _ _ _ h r⟩
  · exact .inr (.inr ⟨hw,h⟩)
theorem CallsC.rely (T:Terms R D) {f:FuncId} {args:Array Value} {m:Nat} {w w₁:World} {Post:Value→World→Prop} (h:CallsC P main R D f args m w Post) (r:R w w₁):CallsC P main R D f args m w₁ Post:=by
  obtain ⟨g,c,h1,h2,h3,h4⟩:=h
  exact ⟨g,c,h1,h2,h3,wpC_rely T h4 r⟩
theorem AnyX.rely (T:Terms R D) (hSR:∀ x y,S x→R x y→S y) (hQR:∀ a x y,Q .normal a x→R x y→Q .normal a y):∀ (k:Nat) (l:Array Bool) (a:Act) (w w₁:World),AnyX P main R D fn ops nf Q S lst k l a w→R w w₁→AnyX P main R D fn ops nf Q S lst k l a w₁
  | 0,_,_,_,_,h,r=>⟨h.1,hQR _ _ _ h.2 r⟩
  | k+1,l,a,w,w₁,h,r=>⟨fun e=>hQR _ _ _ (h.1 e) r,fun i hi=>by
      obtain ⟨o,ho,h⟩:=h.2 i hi
      refine ⟨o,ho,?_⟩
      rcases h with ⟨hw,h⟩ | ⟨hw,f,args,ats,Post,e1,e2,e3⟩ | ⟨hw,h⟩
      · exact .inl ⟨hw,fun w₂ r₂=>h w₂ (T.trans _ _ _ r r₂)⟩
      · exact .inr (.inl ⟨hw,f,args,ats,Post,e1,CallsC.rely T e2 r,e3⟩)
      · exact .inr (.inr ⟨hw,fun hne=>hSR _ _ (h.1 hne) r,AnyX.rely T hSR hQR k _ _ _ _ h.2 r⟩)⟩
def DC (ops:Array Oper) (l:Array Bool):Prop:=∀ j o,ops[j]? = some o→l.getD j false=true→∀ e∈o.after,Region.binds .any e=true→l.getD e.on false=true
theorem DC.set {l:Array Bool} (h:DC ops l) {j:Nat} (hj:j∈Region.ready .any ops l):DC ops (l.setIfInBounds j true):=by
  intro m o ho hm e he hb
  by_cases hjm:j=m
  · subst hjm
    obtain ⟨_,o',ho',hall⟩:=mem_ready.1 hj
    obtain rfl:o=o':=by rw [ho] at ho';exact Option.some.inj ho'
    exact getD_set_true (hall e he hb)
  · rw [getD_set_ne false hjm] at hm
    exact getD_set_true (h m o ho hm e he hb)
def waitsFor (ops:Array Oper):Nat→Nat→Nat→Bool
  | 0,_,_=>false
  | n+1,j,i=>match ops[j]? with
    | none=>false
    | some o=>o.after.any fun e=>Region.binds .any e && (e.on == i || waitsFor ops n e.on i)
theorem waits_listed {l:Array Bool} (h:DC ops l) {i:Nat}:∀ (n j:Nat) (o:Oper),ops[j]? = some o→(∀ e∈o.after,Region.binds .any e=true→l.getD e.on false=true)→waitsFor ops n j i=true→l.getD i false=true
  | 0,_,_,_,_,hw=>by simp [waitsFor] at hw
  | n+1,j,o,ho,hd,hw=>by
    simp only [waitsFor,ho,Array.any_eq_true] at hw
    obtain ⟨x,hx,hw⟩:=hw
    simp only [Bool.and_eq_true,Bool.or_eq_true,beq_iff_eq] at hw
    have hon:=hd _ (Array.getElem_mem hx) hw.1
    rcases hw.2 with e | e
    · rw [← e];exact hon
    · cases ho':ops[o.after[x].on]? with
      | none=>
        cases n with
        | zero=>simp [waitsFor] at e
        | succ n=>simp [waitsFor,ho'] at e
      | some o'=>exact waits_listed h n _ o' ho' (h _ o' ho' hon) e
theorem anyX_first (T:Terms R D) (hSR:∀ x y,S x→R x y→S y) (hQR:∀ a x y,Q .normal a x→R x y→Q .normal a y) {i:Nat} {oi:Oper} {v:Value} (hi:ops[i]? = some oi) (hsel:∀ (j:Nat) (o:Oper) cs b,ops[j]? = some o→o.op ≠ .select cs b) {nw:Nat} (hwt:waitsFor ops nw lst i=true) :
    ∀ (k:Nat) (l:Array Bool) (a:Act) (w:World),DC ops l→(∀ j oj,ops[j]? = some oj→j≠i→l.getD j true=false→(∀ e∈oj.after,Region.binds .any e=true→e.on≠i)→oi.apart ops oj=true) →
      i∈Region.ready .any ops l→YieldsIfC P D fn ops S oi v a→S w→AnyX P main R D fn ops nf Q S lst k (l.setIfInBounds i true) (a.put oi.dst v) w→AnyX P main R D fn ops nf Q S lst (k+1) l a w:=by
  have hK:∀ j k l,∀ a x y,((j≠lst→S x)∧AnyX P main R D fn ops nf Q S lst k l a x)→R x y→((j≠lst→S y)∧AnyX P main R D fn ops nf Q S lst k l a y):=
    fun j k l a x y h r=>⟨fun hne=>hSR _ _ (h.1 hne) r,AnyX.rely T hSR hQR k l a x y h.2 r⟩
  intro k
  induction k with
  | zero=>
    intro l a w _ _ hr hy hS H
    refine ⟨fun h=>(by rw [h] at hr;cases hr),fun j hj => ?_⟩
    by_cases hji:j=i
    · subst hji;exact YieldsIfC.opX hSR hi hy (hK _ _ _) hS ⟨fun _=>hS,H⟩
    · have:=ready_mono hj hji
      rw [H.1] at this
      cases this
  | succ k ih=>
    intro l a w hdc hfree hr hy hS H
    refine ⟨fun h=>(by rw [h] at hr;cases hr),fun j hj => ?_⟩
    by_cases hji:j=i
    · subst hji;exact YieldsIfC.opX hSR hi hy (hK _ _ _) hS ⟨fun _=>hS,H⟩
    · have h1:=H.2 j (ready_mono hj hji)
      obtain ⟨hjun,oj,hoj,hall⟩:=mem_ready.1 hj
      have hir:i∈Region.ready .any ops (l.setIfInBounds j true):=ready_mono hr (Ne.symm hji)
      have hnot:∀ e∈oj.after,Region.binds .any e=true→e.on≠i:=fun e he hb heq=>by
        have h1:=hall e he hb
        have h0:=(mem_ready.1 hr).1
        rw [heq] at h1
        rcases Nat.lt_or_ge i l.size with h' | h'
        · simp [h'] at h0 h1;rw [h0] at h1;cases h1
        · simp [Array.getElem?_eq_none h'] at h1
      have h2:=OpX.swap hoj (hfree j oj hoj hji hjun hnot) (fun cs b=>hsel i oi cs b hi) (fun cs b=>hsel j oj cs b hoj) hy h1
      have hfree':∀ m om,ops[m]? = some om→m≠i→(l.setIfInBounds j true).getD m true=false→(∀ e∈om.after,Region.binds .any e=true→e.on≠i)→oi.apart ops om=true:=fun m om hm hmi hun hno=>by
        refine hfree m om hm hmi ?_ hno
        by_cases hjm:j=m
        · subst hjm;exact hjun
        · rw [getD_set_ne true hjm] at hun;exact hun
      have hjl:j≠lst:=by
        rintro rfl
        have h1:=waits_listed hdc nw j oj hoj hall hwt
        have h0:=(mem_ready.1 hr).1
        rcases Nat.lt_or_ge i l.size with h' | h'
        · simp [h'] at h0 h1;rw [h0] at h1;cases h1
        · simp [Array.getElem?_eq_none h'] at h1
      refine OpX.mono (fun a' w' h3=>⟨fun _=>h3.2.1 hjl,ih (l.setIfInBounds j true) a' w' (hdc.set hj) hfree' hir h3.1 (h3.2.1 hjl) ?_⟩) h2
      rw [Array.setIfInBounds_comm _ _ hji]
      exact h3.2.2
def dcB (ops:Array Oper) (l:Array Bool):Bool:=(List.range ops.size).all fun j => !l.getD j false || match ops[j]? with
  | some o=>o.after.all fun e => !Region.binds .any e || l.getD e.on false
  | none=>true
theorem dcB_spec {l:Array Bool} (h:dcB ops l=true):DC ops l:=by
  intro j o ho hj e he hb
  simp only [dcB,List.all_eq_true,List.mem_range] at h
  have h1:=h j (Array.getElem?_eq_some_iff.1 ho).1
  simp only [hj,ho,Bool.not_true,Bool.false_or] at h1
  have h2:=Array.all_eq_true_iff_forall_mem.1 h1 e he
  simpa [hb] using h2
theorem anyX_take (T:Terms R D) (hSR:∀ x y,S x→R x y→S y) (hQR:∀ a x y,Q .normal a x→R x y→Q .normal a y) {i:Nat} {oi:Oper} {v:Value} {k:Nat} {l:Array Bool} {a:Act} {w:World} (hi:ops[i]? = some oi)
    (hs:Region.noSelect ops=true) (hf:Region.free .any ops l i=true) (hr:(Region.ready .any ops l).contains i=true) (hwt:waitsFor ops ops.size lst i=true) (hdc:dcB ops l=true)
    (hy:YieldsIfC P D fn ops S oi v a) (hS:S w) (h:AnyX P main R D fn ops nf Q S lst k (l.setIfInBounds i true) (a.put oi.dst v) w):AnyX P main R D fn ops nf Q S lst (k+1) l a w:=
  anyX_first T hSR hQR hi (Region.noSelect_spec hs) hwt k l a w (dcB_spec hdc) (Region.free_spec hi hf) (by simpa using hr) hy hS h
theorem anyX_one {i:Nat} {k:Nat} {l:Array Bool} {a:Act} {w:World} (hr:Region.ready .any ops l=[i]) (h:OpX P main R D fn ops nf i (fun a' w'=>(i≠lst→S w')∧AnyX P main R D fn ops nf Q S lst k (l.setIfInBounds i true) a' w') a w) :
    AnyX P main R D fn ops nf Q S lst (k+1) l a w:=
  ⟨fun h0=>absurd (hr.symm.trans h0) (by simp),fun j hj=>by
    rw [hr] at hj
    obtain rfl:j=i:=by simpa using hj
    exact h⟩
theorem anyX_done {l:Array Bool} {a:Act} {w:World} (hr:Region.ready .any ops l=[]) (h:Q .normal a w):∀ k,AnyX P main R D fn ops nf Q S lst k l a w
  | 0=>⟨hr,h⟩
  | _+1=>⟨fun _=>h,fun i hi=>by rw [hr] at hi;cases hi⟩
theorem wpC_region_any (T:Terms R D) (hd:LetsDraw D) {id:Nat} {a:Act} {w:World} (hm:P.follows .mixedOrders=true)
    (h:∀ w₁,R w w₁→AnyX P main R D fn ops nf Q S lst ops.size (Array.replicate ops.size false) a { w₁ with drawn:=w₁.drawn+1 }):(Code.region id ops true).wpC P main R D fn (ops.size*(nf+3)+1+1) Q a w:=
  wpC_region_draw hd fun w₁ h₁ t=>by
    simp only [Region.schedule,hm,Bool.true_or,if_true]
    exact anyX_sound T ops.size t _ a _ (h w₁ h₁)
end
end Go.Gh
namespace Go.Gh
open Go.Conc Go.ConcN Go.RowKit
open Go.ConcR (Payload)
section
variable {P:Program} {main:Bool} {R:World→World→Prop} {D:World→World→Array Event→Prop}
theorem stepG_leaveE {b:Frame} {a:Act} {cs:List Frame} {w:World} {fn:Func} {todo:List Item} {c:Frame} {v:Value} (hn:b.kind = .normal) (hd:a.defers=[]) (hf:P.funcs[b.fn]? = some fn) (hr:(results fn a.tmps).run P w = .ok v w) :
    stepG P main (G { b.at a todo with mode:=.returning } (c :: cs)) w = .go (G (c.finish v) cs) w (seen P b.fn ((results fn a.tmps).events P w #[])):=by
  simp [G,stepG,unwind,doReturn,Frame.at,hn,hd,hf,hr,GStep.after]
def CallsG (P:Program) (main:Bool) (R:World→World→Prop) (D:World→World→Array Event→Prop) (f:FuncId) (args:Array Value) (n:Nat) (w:World) (Post:Value→World→Prop):Prop:=
  ∃ fn c,P.funcs[f]? = some fn∧(fn.name == "runtime.NumGoroutine")=false∧fn.body=some c ∧
    ∀ (b:Frame) (a:Act) (k:List Item) (cs:List Frame) (ops:Array Oper) (i:Nat) (rest:List Nat) (Stop:Goroutine→World→Prop) (m:Nat),
      (∀ v w',Post v w' → Goes P main R D Stop m (G (b.at (a.put ((ops[i]?).bind (·.dst)) v) (.inRegion ops rest :: k)) cs) w') →
      Goes P main R D Stop (m+n) (G ((base f).at { tmps:=args++Array.replicate (fn.ntmps - args.size) undef,defers:=[] } [.code c]) (b.at a (.inRegion ops (i :: rest) :: k) :: cs)) w
theorem callsG_of_wpC (T:Terms R D) {f:FuncId} {fn:Func} {c:Code} {args:Array Value} {n:Nat} {w:World} {Post:Value→World→Prop} {Q:Act→World→Prop} (hf:P.funcs[f]? = some fn) (hname:(fn.name == "runtime.NumGoroutine")=false) (hb:fn.body=some c)
    (hq:∀ a' w',Q a' w' → a'.defers=[]∧∀ w₁,R w' w₁→∃ v,(results fn a'.tmps).run P w₁ = .ok v w₁∧D w₁ w₁ (seen P f ((results fn a'.tmps).events P w₁ #[]))∧Post v w₁)
    (h:c.wpC P main R D f n (fun e a' w'=>match e with | .ret | .normal=>Q a' w' | _=>False) { tmps:=args++Array.replicate (fn.ntmps - args.size) undef,defers:=[] } w):CallsG P main R D f args (n+2) w Post:=by
  refine ⟨fn,c,hf,hname,hb,fun b a k cs ops i rest Stop m hK => ?_⟩
  have hleave:∀ (a':Act) (w':World) (todo:List Item),Q a' w' → Goes P main R D Stop (m+1) (G { (base f).at a' todo with mode:=.returning } (b.at a (.inRegion ops (i :: rest) :: k) :: cs)) w':=by
    intro a' w' todo hQ
    obtain ⟨hd,hr⟩:=hq a' w' hQ
    refine Goes.step rfl fun w₁ h₁ => ?_
    obtain ⟨v,h1,h2,h3⟩:=hr w₁ h₁
    rw [stepG_leaveE (b:=base f) rfl hd hf h1,Frame.finish_at]
    exact ⟨h2,hK v w₁ h3⟩
  have:=h (base f) [] (b.at a (.inRegion ops (i :: rest) :: k) :: cs) Stop (m+2) rfl (by simp [base]) fun e a' w' q=>by
    cases e with
    | normal=>exact Goes.step rfl fun w₁ h₁=>by rw [stepG_end];exact ⟨T.idle _,(hleave a' w' [] q).rely T.trans h₁⟩
    | ret=>exact fun todo=>(hleave a' w' todo q).more
    | exit id=>exact q.elim
    | goto l=>exact q.elim
    | panic ch=>exact q.elim
    | outgrown=>exact q.elim
  exact this.mono (by omega)
theorem opsC_callG (T:Terms R D) {fn:FuncId} {Q:Exit→Act→World→Prop} {a:Act} {w:World} {ops:Array Oper} {i:Nat} {rest:List Nat} {o:Oper} {f:FuncId} {args:Array Operand} {ats:Array TypeId} {nf n:Nat} {Post:Value→World→Prop}
    (ho:ops[i]? = some o) (hw:Region.wanted o (yielded ops a.tmps)=true) (hop:o.op = .call { callee:=.value (.func f),args,argTypes:=ats })
    (hcall:CallsG P main R D f (args.map a.eval) nf w Post) (hnext:∀ v w',Post v w' → OpsC P main R D fn ops rest n Q (a.put o.dst v) w'):OpsC P main R D fn ops (i :: rest) (n+nf+1) Q a w:=by
  intro b k cs Stop m hb hk hc
  obtain ⟨g,c,hf,hname,hbody,hG⟩:=hcall
  have:=hG b a k cs ops i rest Stop (m+n) (fun v w' p=>by rw [ho];exact hnext v w' p b k cs Stop m hb hk hc)
  have e:m+(n+nf+1)=(m+n+nf)+1:=by omega
  rw [e]
  exact Goes.step rfl fun w₁ h₁=>goes_call ho hw hk hop hf hname hbody ⟨T.idle _,this.rely T.trans h₁⟩
end
section
variable [Payload] (Wg C n B:Nat) (Cl S:Nat→Prop)
structure Ex (w w':World):Prop where
  size:w.heap.size≤w'.heap.size
  tape:w'.tape=w.tape
  os:w'.os=w.os
  tag:tagOf w≤w.heap.size→tagOf w' ≤ w'.heap.size
  own:∀ b,Mine w b→Mine w' b
  mine:∀ b,Mine w b→¬ S b→w'.heap[b]? = w.heap[b]?
  low:∀ b,b < B→b≠Wg→b≠C→w'.heap[b]? = w.heap[b]?
  cell:∀ i,Cl i→w'.cell? ⟨C,i,none⟩=w.cell? ⟨C,i,none⟩
  pay:PayAt C n w→PayAt C n w'
end
section
variable [Payload] {Wg C n B:Nat} {Cl S:Nat→Prop} {w w' w₁:World}
theorem Ex.refl (w:World):Ex Wg C n B Cl S w w:=⟨Nat.le_refl _,rfl,rfl,id,fun _=>id,fun _ _ _=>rfl,fun _ _ _ _=>rfl,fun _ _=>rfl,id⟩
theorem Ex.trans (h:Ex Wg C n B Cl S w w') (h':Ex Wg C n B Cl S w' w₁):Ex Wg C n B Cl S w w₁:=
  ⟨Nat.le_trans h.size h'.size,h'.tape.trans h.tape,h'.os.trans h.os,h'.tag ∘ h.tag,fun b x=>h'.own b (h.own b x),fun b x y=>(h'.mine b (h.own b x) y).trans (h.mine b x y),fun b x y z=>(h'.low b x y z).trans (h.low b x y z),
    fun i x=>(h'.cell i x).trans (h.cell i x),h'.pay ∘ h.pay⟩
theorem Ex.weaken {S':Nat→Prop} (h:Ex Wg C n B Cl S w w') (hs:∀ b,S b→S' b):Ex Wg C n B Cl S' w w':=
  ⟨h.size,h.tape,h.os,h.tag,h.own,fun b x y=>h.mine b x fun z=>y (hs b z),h.low,h.cell,h.pay⟩
theorem Ro.ex (h:Ro Wg C n B Cl w w'):Ex Wg C n B Cl S w w':=
  ⟨h.size,h.tape,h.os,fun _=>Nat.le_of_eq h.tag,fun b x=>(h.mineAt b).2 x,fun b x _=>h.mine b x,h.low,h.cell,h.pay⟩
theorem Ex.rely (h:Ex Wg C n B Cl S w w') (r:Ro Wg C n B Cl w' w₁):Ex Wg C n B Cl S w w₁:=h.trans r.ex
theorem termsG [OldG]:Terms (Ro Wg C n B Cl) (Dg Wg C n B Cl):=⟨fun _ _ _ a b=>Ro.trans a b,fun w=>Dg.idle w⟩
theorem drawG [OldG]:LetsDraw (Dg Wg C n B Cl):=fun w=>⟨Nat.le_refl _,rfl,rfl,fun _ _ _ _=>rfl,fun _ _=>rfl,id,by simp⟩
omit [Payload] in
theorem mine_grow (ho:w'.output=w.output) (hs:w.heap.size≤w'.heap.size) {b:Nat} (h:Mine w b):Mine w' b:=by
  unfold Mine ownOf tagOf at *
  rw [ho]
  exact h.imp id fun x=>⟨x.1,by omega⟩
omit [Payload] in
theorem tag_same (ho:w'.output=w.output):tagOf w' = tagOf w:=by unfold tagOf;rw [ho]
omit [Payload] in
theorem mine_fresh (ho:w'.output=w.output) (ht:tagOf w≤w.heap.size) {b:Nat} (h1:w.heap.size≤b) (h2:b < w'.heap.size):Mine w' b:=by
  refine .inr ⟨?_,h2⟩
  rw [tag_same ho]
  omega
omit [Payload] in
theorem sz_alloc (w:World) (o:Obj):(w.alloc o).heap.size=w.heap.size+1:=Array.size_push ..
omit [Payload] in
theorem sz_set (w:World) (a:Addr) (v:Value):(w.setCell a v).heap.size=w.heap.size:=by simp [World.setCell]
omit [Payload] in
theorem mine_lt (ht:∀ b∈ownOf w,b < w.heap.size) {b:Nat} (h:Mine w b):b < w.heap.size:=h.elim (ht b) (·.2)
theorem Ex.alloc (hC:C < w.heap.size) (hB:B≤w.heap.size) (hm:∀ b,Mine w b→b < w.heap.size) (o:Obj):Ex Wg C n B Cl S w (w.alloc o):=
  ⟨by rw [sz_alloc];omega,rfl,rfl,fun h=>by rw [tag_same (w:=w) (w':=w.alloc o) rfl,sz_alloc];omega,fun b h=>mine_grow (w:=w) (w':=w.alloc o) rfl (by rw [sz_alloc];omega) h,fun b h _=>Below.heap_alloc _ _ _ (hm b h),fun b h _ _=>Below.heap_alloc _ _ _ (by omega),
    fun i _=>World.cell?_alloc_lt _ _ _ hC,fun ⟨cs,h1,h2⟩=>⟨cs,(Below.heap_alloc _ _ _ hC).trans h1,h2⟩⟩
theorem dg_alloc [OldG] (hC:C < w.heap.size) (o:Obj) {es:Array Event} (he:es = #[]):Dg Wg C n B Cl w (w.alloc o) es:=by
  subst he
  exact ⟨by rw [sz_alloc];omega,rfl,rfl,fun b h _ _=>Below.heap_alloc _ _ _ h,fun i _=>World.cell?_alloc_lt _ _ _ hC,fun ⟨cs,h1,h2⟩=>⟨cs,(Below.heap_alloc _ _ _ hC).trans h1,h2⟩,by simp⟩
theorem Ex.set {a:Addr} {v:Value} (hne:a.block≠C) (hS:S a.block) (hl:¬ (a.block < B∧a.block≠Wg)):Ex Wg C n B Cl S w (w.setCell a v):=
  ⟨by rw [sz_set];omega,rfl,rfl,fun h=>by rw [tag_same (w:=w) (w':=w.setCell a v) rfl,sz_set];exact h,fun b h=>mine_grow (w:=w) (w':=w.setCell a v) rfl (by rw [sz_set];omega) h,fun b _ h=>Below.heap_setCell _ _ _ _ (fun e=>h (e ▸ hS)),fun b h1 h2 _=>Below.heap_setCell _ _ _ _ (fun e=>hl (by rw [← e];exact ⟨h1,h2⟩)),
    fun i _=>World.cell?_setCell_other _ _ _ _ (fun e=>hne (by rw [e])),fun ⟨cs,h1,h2⟩=>⟨cs,(Below.heap_setCell _ _ _ _ (Ne.symm hne)).trans h1,h2⟩⟩
theorem dg_set [OldG] {a:Addr} {v:Value} (hm:Mine w a.block) (hne:a.block≠C) (ha:a.block < w.heap.size) {es:Array Event} (he:∀ e∈es,∃ b wr,e=⟨.cell b,wr,false⟩∧b.block=a.block):Dg Wg C n B Cl w (w.setCell a v) es:=by
  refine ⟨by rw [sz_set];omega,rfl,rfl,fun b _ hb _=>Below.heap_setCell _ _ _ _ (fun e=>hb (e ▸ hm)),fun i _=>World.cell?_setCell_other _ _ _ _ (fun e=>hne (by rw [e])),fun ⟨cs,h1,h2⟩=>⟨cs,(Below.heap_setCell _ _ _ _ (Ne.symm hne)).trans h1,h2⟩,fun e he' => ?_⟩
  obtain ⟨b,wr,rfl,hb⟩:=he e he'
  exact ⟨b,wr,rfl,by rw [sz_set];omega,.inl (by rw [hb];exact hm)⟩
variable [OldG]
def Rdb (Wg C B:Nat) (w:World) (b:Nat):Prop:=Mine w b∨(b < B∧b≠Wg∧b≠C∧¬ OldG.old b)
theorem dg_read {b:Nat} (hr:Rdb Wg C B w b) (hb:b < w.heap.size) {es:Array Event} (he:∀ e∈es,∃ a:Addr,e=⟨.cell a,false,false⟩∧a.block=b):Dg Wg C n B Cl w w es:=by
  refine ⟨Nat.le_refl _,rfl,rfl,fun _ _ _ _=>rfl,fun _ _=>rfl,id,fun e he' => ?_⟩
  obtain ⟨a,rfl,ha⟩:=he e he'
  exact ⟨a,false,rfl,by omega,hr.elim (fun x=>.inl (by rw [ha];exact x)) fun x=>.inr (.inr (.inr (by rw [ha];exact ⟨x.1,x.2.1,x.2.2.1,rfl,x.2.2.2⟩)))⟩
theorem Ex.rdb (h:Ex Wg C n B Cl S w w') {b:Nat} (hr:Rdb Wg C B w b):Rdb Wg C B w' b:=hr.imp (h.own b) id
theorem Ex.stands (h:Ex Wg C n B Cl S w w') {b:Nat} (hr:Rdb Wg C B w b) (hS:¬ S b):w'.heap[b]? = w.heap[b]?:=hr.elim (fun x=>h.mine b x hS) fun x=>h.low b x.1 x.2.1 x.2.2.1
end
end Go.Gh
