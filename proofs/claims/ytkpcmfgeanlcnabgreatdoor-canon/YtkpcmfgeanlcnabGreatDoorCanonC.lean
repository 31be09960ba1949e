/-
  For every list of numbers raw, all numbers k, n, chunk, which and cut and every string any the call Canon of the program's statements returns true, whatever the schedule, without a data race, and leaves its arguments as they were; no condition; the six variables that it reads are tied to the program's own text (the card).
-/
import Derived.Test.YtkpcmfgeanlcnabGreatDoorRows
import Derived.Test.YtkpcmfgeanlcnabGreatDoorCards
import Derived.Test.YtkpcmfgeanlcnabGreatDoorTie
import Derived.Test.YtkpcmfgeanlcnabGreatDoorLdA
import Derived.Conc.LeavingOf
import Derived.WalkKit
import Derived.ProofKit
import Derived.OpenShut
import Derived.ChangeOld
import Derived.Below
import Derived.Carry
import Derived.LaidMore
import Derived.Stop.Joined
import Derived.SevenTiedAt
import Derived.Lib.LaidTab
import Derived.ShutString
import Derived.SizedLaws
import Derived.Conc.Holds
import Derived.Leaving
namespace Go.Proofs.YtkpcmfgeanlcnabGreatDoor.canon
open Go.ChangeShapes Go.WideShapes Go.ChangeAt Go.RowKit Go.Conc Go.Deep
open Go.ChangeMaps (open_string shut_string)
theorem own:ownKnob Tryz.prog.godebug=none:=by kernel_rfl
theorem laidOut:laidOutB Tryz.prog=true:=by kernel_rfl
theorem gl_of {W:World} (h:laidMetH Tryz.prog Rows.canonRow.laid W):∃ a,Gl a W:=by
  have hP:=pow_laid h
  obtain ⟨a,hE⟩:=early_laid h
  exact ⟨a,tab_laid h,hP.1,hP.2,hE,errT_laid h⟩
theorem door_met (os:Os) (args:Array Value):laidMetH Tryz.prog Rows.canonRow.laid ((World.doorLaid Tryz.prog 400 os).forCall (fun _ _=>0) ⟨#[],args,[]⟩).memory:=
  laidMetH_of_parts3 (fuel:=8) (laidMet_of_run' 8 (by kernel_rfl) (by kernel_rfl)) (by kernel_rfl) (by kernel_rfl)
section
variable {H:Type} {enc:TypeId×Value→H} {P:Program} {w:World}
theorem seven {t t1 t2 t3 t4 t5 t6:TypeId} {args:Array Value} {ds:List (DataW H)} {ps:List MemPlace} {base:Nat} {spare:Nat→Bool} {held:Bool} (h:DataW.TrodAll enc P w base spare held [t,t1,t2,t3,t4,t5,t6] args.toList ds ps) :
    ∃ v v1 v2 v3 v4 v5 v6 d d1 d2 d3 d4 d5 d6 p p1 p2 p3 p4 p5 p6,args = #[v,v1,v2,v3,v4,v5,v6]∧ds=[d,d1,d2,d3,d4,d5,d6]∧ps=p++(p1++(p2++(p3++(p4++(p5++p6)))))∧DataW.Trod enc P w base spare held t v d p∧DataW.Trod enc P w base spare held t1 v1 d1 p1∧DataW.Trod enc P w base spare held t2 v2 d2 p2∧DataW.Trod enc P w base spare held t3 v3 d3 p3∧DataW.Trod enc P w base spare held t4 v4 d4 p4∧DataW.Trod enc P w base spare held t5 v5 d5 p5∧DataW.Trod enc P w base spare held t6 v6 d6 p6:=by
  obtain ⟨v,vs,d,ds',p,q,hargs,rfl,rfl,hd,hrest⟩:=trodAll_cons h
  obtain ⟨v1,vs1,d1,ds1,p1,q1,rfl,rfl,rfl,hd1,hrest1⟩:=trodAll_cons hrest
  obtain ⟨v2,vs2,d2,ds2,p2,q2,rfl,rfl,rfl,hd2,hrest2⟩:=trodAll_cons hrest1
  obtain ⟨v3,vs3,d3,ds3,p3,q3,rfl,rfl,rfl,hd3,hrest3⟩:=trodAll_cons hrest2
  obtain ⟨v4,vs4,d4,ds4,p4,q4,rfl,rfl,rfl,hd4,hrest4⟩:=trodAll_cons hrest3
  obtain ⟨v5,vs5,d5,ds5,p5,q5,rfl,rfl,rfl,hd5,hrest5⟩:=trodAll_cons hrest4
  obtain ⟨v6,vs6,d6,ds6,p6,q6,rfl,rfl,rfl,hd6,hrest6⟩:=trodAll_cons hrest5
  obtain ⟨rfl,rfl,rfl⟩:=trodAll_nil hrest6
  exact ⟨v,v1,v2,v3,v4,v5,v6,d,d1,d2,d3,d4,d5,d6,p,p1,p2,p3,p4,p5,p6,by cases args;simp_all,rfl,by simp,hd,hd1,hd2,hd3,hd4,hd5,hd6⟩
theorem wf64 {z:Int} (h:(Lit.int .i64 z).wf=true):In64 z:=by
  simp [Lit.wf,IntKind.min,IntKind.max,IntKind.signed,IntKind.bits] at h
  unfold In64
  omega
theorem open_list {t e:TypeId} {v:Value} {d:DataW H} {p:List MemPlace} {ts:List TypeId} {ds:List (DataW H)} {j base:Nat} (ht:P.underlying t=some (.slice e)) (he:P.underlying e=some (.int .i64)) (hc:P.cellsOf e=1) (hb:P.bytesOf e=8)
    (hsz:(DataW.weightsEach P ts ds).all (· ≤ reachBytes)=true) (hj:ts[j]? = some t) (hd:ds[j]? = some d) (hok:Value.okWide P w .any base t v) (hlt:∀ x∈p,x.block < w.heap.size) (h:DataW.Trod enc P w 0 (fun _=>true) true t v d p) :
    ∃ zs:List Int,Ints w v zs∧zs.length < 9223372036854775807:=by
  obtain ⟨a0,len,cap,rfl⟩:=okWide_slice ht hok
  obtain ⟨fuel,hf⟩:=h
  rcases open_ints ht he hc hf with ⟨hcs,_⟩ | ⟨a,len',cap',zs,hcs,_,hl,hm,hz,hx,hcell,hwz⟩
  · simp [Value.cells] at hcs
    obtain ⟨rfl,rfl,rfl⟩:=hcs
    exact ⟨[],⟨by simp,.inl ⟨_,_,rfl,rfl⟩⟩,by simp⟩
  · simp [Value.cells] at hcs
    obtain ⟨rfl,rfl,rfl⟩:=hcs
    simp only [Prod.mk.injEq] at hx
    obtain ⟨rfl,rfl⟩:=hx
    simp only [if_true] at hz
    have hreach:=sized_slice hsz hj hd ht
    rw [hb] at hreach
    simp only [lits,List.length_map,List.length_take,List.length_drop,reachBytes] at hreach
    have hlen:(zs.take len).length=len:=by simp;omega
    refine ⟨zs.take len,⟨fun z hz'=>wf64 (hwz z (List.mem_of_mem_take hz')),?_⟩,by rw [hlen];omega⟩
    by_cases h0:len=0
    · subst h0
      exact .inl ⟨_,_,by simp,rfl⟩
    · obtain ⟨b,off,sp⟩:=a
      have hspot:sp=none:=by simpa [Addr.add] using World.cell?_spot (hcell 0 (by omega))
      subst hspot
      refine .inr ⟨b,off,cap,by rw [hlen],?_,fun j z hz' => ?_⟩
      · exact hlt (.cell b off) (MemPlace.mem_row.2 ⟨0,by omega,by simp⟩)
      · have hj':j < len:=by
          have:=(List.getElem?_eq_some_iff.1 hz').1
          omega
        have:=hcell j (by omega)
        rw [List.getElem?_take,if_pos hj'] at hz'
        rw [List.getD_eq_getElem?_getD,hz'] at this
        have e:Addr.add ⟨b,off,none⟩ j=⟨b,off+j,none⟩:=by
          unfold Addr.add
          split
          · rename_i h
            obtain rfl:j=0:=by simpa using h
            rfl
          · rfl
        rw [e] at this
        exact this
end
theorem fits (os:Os) (H:Type) (enc:TypeId×Value→H):∃ (w:World) (tape:Tape) (i:Input),w.os=os∧(w.forCall tape i).Shaped Tryz.prog∧i.vars=[]∧Input.okWide Tryz.prog (w.forCall tape i) .any w.heap.size 3 i ∧
    (OpenSpec.ofChange Rows.canonSpec).preRow enc Tryz.prog Tryz.f3 Rows.canonRow.domain false Rows.canonRow.laid (w.forCall tape i).memory i.args∧({}:Assume).holds Tryz.prog (lone (Frame.enter Tryz.prog 3 i.args .normal) [] (w.forCall tape i)):=by
  have hok:Input.okWideB Tryz.prog ((World.doorLaid Tryz.prog 400 os).forCall (fun _ _=>0) ⟨#[],#[.slice none 0 0,.int .i64 0,.int .i64 0,.int .i64 0,.int .i64 0,.int .i64 0,.string ByteArray.empty],[]⟩) 3 ⟨#[],#[.slice none 0 0,.int .i64 0,.int .i64 0,.int .i64 0,.int .i64 0,.int .i64 0,.string ByteArray.empty],[]⟩=true:=by kernel_rfl
  have hx:DataW.whole enc Tryz.prog ((World.doorLaid Tryz.prog 400 os).forCall (fun _ _=>0) ⟨#[],#[.slice none 0 0,.int .i64 0,.int .i64 0,.int .i64 0,.int .i64 0,.int .i64 0,.string ByteArray.empty],[]⟩).memory Tryz.f3.params.toList (OpenSpec.ofChange Rows.canonSpec).vars false #[Value.slice none 0 0,.int .i64 0,.int .i64 0,.int .i64 0,.int .i64 0,.int .i64 0,.string ByteArray.empty].toList 8=some ([.nil,.lit (.int .i64 0),.lit (.int .i64 0),.lit (.int .i64 0),.lit (.int .i64 0),.lit (.int .i64 0),.lit (.string [])],[],[]):=by kernel_rfl
  refine ⟨World.doorLaid Tryz.prog 400 os,fun _ _=>0,⟨#[],#[.slice none 0 0,.int .i64 0,.int .i64 0,.int .i64 0,.int .i64 0,.int .i64 0,.string ByteArray.empty],[]⟩,rfl,World.shaped_of_RefB (by kernel_rfl) (by kernel_rfl),(Input.okWide_of_okWideB (base:=0) hok).1,(Input.okWide_of_okWideB hok).2,OpenSpec.preRow_of_cond 8 hx (by kernel_rfl) (fun k hk=>by cases hk) (by kernel_rfl) (door_met os _),?_⟩
  simp only [Assume.holds]
  exact ⟨by simp,by simp,fun _=>Modest.zero,by simp,by simp⟩
set_option maxRecDepth 100000 in
theorem lifted (os:Os) (started:os.Started) (H:Type) (enc:TypeId×Value→H) (F:Stop.Interp) :
    ReturnsInLeavingWide {} Tryz.checked os 3 .any ((OpenSpec.ofChange Rows.canonSpec).preRow enc Tryz.prog Tryz.f3 Rows.canonRow.domain false Rows.canonRow.laid) (((OpenSpec.ofChange Rows.canonSpec).at F).post enc Tryz.prog Tryz.f3 false true false false):=by
  refine returnsInLeavingWide_of_good own started (fits os H enc) ?_
  intro w tape i _ _ _ hok hpre _
  obtain ⟨_,_,_,fn',hfn',_,_,_,_,hval0⟩:=hok
  obtain rfl:fn' = Tryz.f3:=Option.some.inj (hfn'.symm.trans Tryz.func3)
  obtain ⟨⟨hp,hl⟩,hz⟩:=hpre
  obtain ⟨ds,gs,before,hw0,_,hk⟩:=OpenSpec.pre_parts hp
  have hsz0:=hz.weights hw0
  have hW:=DataW.Whole.of_heap (w':=w.forCall tape i) (by rfl) hw0
  have hL:laidMetH Tryz.prog Rows.canonRow.laid (w.forCall tape i):=hl.of_heap (by rfl)
  have hsz:(DataW.weightsEach Tryz.prog (Tryz.f3.params.toList++Rows.canonSpec.plain.varTypes Tryz.prog) (ds++gs)).all (· ≤ reachBytes)=true:=hsz0
  clear hk hp hl hw0 hz hsz0
  generalize hargs:i.args=args at *
  have hval:∀ (j:Nat) t v,Tryz.f3.params[j]? = some t→args[j]? = some v→Value.okWide Tryz.prog (w.forCall tape i) .any w.heap.size t v:=fun j t v h1 h2=>hval0 j t v h1 h2
  clear hval0
  generalize w.heap.size=base at *
  suffices ∀ W:World,(∀ (j:Nat) t v,Tryz.f3.params[j]? = some t→args[j]? = some v→Value.okWide Tryz.prog W .any base t v)→DataW.Whole enc Tryz.prog Tryz.f3.params.toList (OpenSpec.ofChange Rows.canonSpec).vars false W args.toList ds gs before→laidMetH Tryz.prog Rows.canonRow.laid W →
      ∃ M last o w' t',runNT Tryz.prog (M+1) (solo (G (Frame.enter Tryz.prog 3 args .normal) []) W) #[]=(.ended o w',t')∧runN Tryz.prog M (solo (G (Frame.enter Tryz.prog 3 args .normal) []) W) = .next last∧step Tryz.prog last = .ended o w' ∧ Conc.Good Tryz.prog (fun v W'=>Rows.canonSpec.post enc Tryz.prog Tryz.f3 false true false false W args v W') last o w' t' by
    obtain ⟨M,last,o,w',t',h1,h2,h3,h4⟩:=this (w.forCall tape i) hval hW hL
    exact ⟨M,last,o,w',t',h1,h2,h3,h4.mono fun v hp=>ChangeSpec.post_blind hp⟩
  clear hval hW hL
  intro W hval hW hL
  have hW':=hW
  obtain ⟨p,q,hA0,hV,rfl,_,_⟩:=hW
  have hA:DataW.TrodAll enc Tryz.prog W 0 (fun _=>true) true Tryz.f3.params.toList args.toList ds p:=hA0
  rw [Tryz.params3] at hA hval hsz
  obtain ⟨v0,v1,v2,v3,v4,v5,v6,d0,d1,d2,d3,d4,d5,d6,p0,p1,p2,p3,p4,p5,p6,rfl,rfl,rfl,h0,h1,h2,h3,h4,h5,h6⟩:=seven hA
  obtain ⟨rfl,rfl⟩:=trodVars_none hV
  obtain ⟨a1,rfl,rfl,rfl,w1⟩:=open_int Tryz.underlying3 (hval 1 3 v1 rfl rfl) h1
  obtain ⟨a2,rfl,rfl,rfl,w2⟩:=open_int Tryz.underlying3 (hval 2 3 v2 rfl rfl) h2
  obtain ⟨a3,rfl,rfl,rfl,w3⟩:=open_int Tryz.underlying3 (hval 3 3 v3 rfl rfl) h3
  obtain ⟨a4,rfl,rfl,rfl,w4⟩:=open_int Tryz.underlying3 (hval 4 3 v4 rfl rfl) h4
  obtain ⟨a5,rfl,rfl,rfl,w5⟩:=open_int Tryz.underlying3 (hval 5 3 v5 rfl rfl) h5
  obtain ⟨s,rfl,rfl,rfl,hs⟩:=open_string Tryz.underlying9 (hval 6 9 v6 rfl rfl) h6
  have hlen:s.data.toList.length≤reachBytes:=sized_string hsz (j:=6) (t:=9) rfl rfl
  have hreach:=reachBytes_lt
  clear hA0 hA
  simp only [List.append_nil] at hW'
  have hlt0:∀ x∈p0,x.block < W.heap.size:=fun x hx=>by
    have:=hW'.lt x (by simp [hx])
    simpa using this
  obtain ⟨zr,hr,hlr⟩:=open_list (j:=0) Tryz.underlying22 Tryz.underlying3 (by kernel_rfl) (by kernel_rfl) hsz rfl rfl (hval 0 22 v0 rfl rfl) hlt0 h0
  obtain ⟨a,hG⟩:=gl_of hL
  have es:s=⟨s.data.toList.toArray⟩:=by cases s;simp
  have run:=canon_ok (z:=s.data.toList) hr hlr (wf64 w1) (wf64 w2) (wf64 w3) (wf64 w4) (wf64 w5) (by omega) hG
  rw [← es] at run
  obtain ⟨M,last,o,w',t',r1,r2,r3,r4⟩:=run
  refine ⟨M,last,o,w',t',r1,r2,r3,r4.mono fun v hF => ?_⟩
  obtain ⟨rfl,hkp⟩:=hF
  have bel:Below W.heap.size W { w' with tape:=W.tape }:=⟨hkp.os,rfl,hkp.output,hkp.size,hkp.block⟩
  have stays:∀ {t:TypeId} {v:Value} {d:DataW H} {ps:List MemPlace},Tryz.prog.readableRec t=true→t < Tryz.prog.types.size→DataW.Trod enc Tryz.prog W 0 (fun _=>true) true t v d ps→(∀ x∈ps,x.block < W.heap.size)→DataW.Trod enc Tryz.prog w' 0 (fun b=>decide (b < W.heap.size)) true t v d ps:=
    fun hr hrow h hl=>WideElems.Trod_stays laidOut hr hrow h (fun x hx=>bel.same (hl x hx)) (fun x hx=>by simpa using hl x hx)
  have fr:∀ may,W.keptBut w' may:=fun may=>by
    have h:=bel.frame may
    exact ⟨h.1,h.2.1,h.2.2⟩
  have s0:=stays (by kernel_rfl) (of_decide_eq_true (by kernel_rfl)) h0 hlt0
  exact ⟨_,_,_,[],_,[],hW',trodAll_mk1 (shut_bool Tryz.underlying4 _),⟨_,_,s0,⟨_,_,shut_int Tryz.underlying3 w1,⟨_,_,shut_int Tryz.underlying3 w2,⟨_,_,shut_int Tryz.underlying3 w3,⟨_,_,shut_int Tryz.underlying3 w4,⟨_,_,shut_int Tryz.underlying3 w5,trodAll_mk1 (shut_string Tryz.underlying9 hs),rfl⟩,rfl⟩,rfl⟩,rfl⟩,rfl⟩,rfl⟩,rfl,fr _,fun h=>by cases h⟩
theorem reads:(∀ t∈Tryz.f3.params,Tryz.prog.readableRec t=true)∧∀ t∈Tryz.f3.resultTypes,Tryz.prog.readableRec t=true∧t < Tryz.prog.types.size:=by
  have h1:(Tryz.f3.params.toList.all fun t=>Tryz.prog.readableRec t)=true:=by kernel_rfl
  have h2:(Tryz.f3.resultTypes.toList.all fun t=>Tryz.prog.readableRec t && decide (t < Tryz.prog.types.size))=true:=by kernel_rfl
  exact ⟨fun t ht=>List.all_eq_true.1 h1 t (by simpa using ht),fun t ht=>by
    have:=List.all_eq_true.1 h2 t (by simpa using ht)
    simpa using this⟩
theorem calm (os:Os):Stop.quiet Tryz.prog os:=fun k hk=>by
  have e:Tryz.prog.stopKnobs=[]:=by kernel_rfl
  rw [e] at hk
  cases hk
set_option maxRecDepth 100000 in
theorem over:Rows.CanonSaid:=by
  unfold Rows.CanonSaid OpenClaim.holds
  refine ⟨by kernel_rfl,rfl,rfl,rfl,laidOut,by kernel_rfl,(show Tryz.prog.mayEnter=true by kernel_rfl),⟨rfl,rfl,rfl,rfl,rfl,rfl,rfl⟩,3,Tryz.f3,by kernel_rfl,Tryz.func3,reads,(fun h=>by cases h),by kernel_rfl,
    of_decide_eq_true (by kernel_rfl),(by unfold Func.isWrapper;first | (rw [if_pos (by decide +kernel)];kernel_rfl) | (rw [if_neg (by decide +kernel)];exact ⟨rfl,rfl⟩)),
    by kernel_rfl,⟨by kernel_rfl,by kernel_rfl,by kernel_rfl⟩,by kernel_rfl,by kernel_rfl,by kernel_rfl,by kernel_rfl,by kernel_rfl,⟨by kernel_rfl,by kernel_rfl,by kernel_rfl⟩,⟨by kernel_rfl,by kernel_rfl⟩,⟨by kernel_rfl,by kernel_rfl,by kernel_rfl,by kernel_rfl⟩,⟨by kernel_rfl,by kernel_rfl,by kernel_rfl,by kernel_rfl⟩,by kernel_rfl,(fun n hn=>by cases hn),⟨_,WideRow.started_initial,calm _⟩,[],rfl,?_⟩
  intro os st _ H enc _
  rw [OpenClaim.post_not_still rfl,OpenClaim.pre_eq_preRow]
  intro F
  exact lifted os st H enc F (by kernel_rfl)
theorem looksAt:∀ f fn,Tryz.pinned.checked.prog.funcNamed Rows.canonRow.func=some f→Tryz.pinned.checked.prog.funcs[f]? = some fn→true=Tryz.pinned.checked.prog.looks []∧∀ (j:Nat) t,fn.params[j]? = some t→Tryz.pinned.checked.prog.wantsStandIn t=false:=fun f fn hf hfn=>by
  obtain rfl:f=3:=Option.some.inj ((show Tryz.prog.funcNamed "cairn/cairnkeep.Canon" = some 3 by kernel_rfl).symm.trans hf) |>.symm
  obtain rfl:fn=Tryz.f3:=(Option.some.inj (Tryz.func3.symm.trans hfn)).symm
  exact ⟨by kernel_rfl,fun j t ht=>by
    rw [Tryz.params3] at ht
    have hm:t∈[22,3,3,3,3,3,9]:=by simpa using Array.mem_of_getElem? ht
    have hall:([22,3,3,3,3,3,9].all fun u => !Tryz.prog.wantsStandIn u)=true:=by kernel_rfl
    exact (show Tryz.prog.wantsStandIn t=false by simpa using List.all_eq_true.1 hall t hm)⟩
theorem proved:Rows.CanonCardSaid:=
  ⟨Claim7.tied_new_at .later [.data,.data,.data,.data,.handle,.sentinel] true (Claim7.new_of_sixth over Rows.canonCard.stood.harness true rfl ⟨rfl,rfl⟩ (by kernel_rfl) (by kernel_rfl) looksAt) (by kernel_rfl),(fun _ h=>by cases h),canon_row_tie,(fun h=>by cases h),by kernel_rfl⟩
end Go.Proofs.YtkpcmfgeanlcnabGreatDoor.canon
