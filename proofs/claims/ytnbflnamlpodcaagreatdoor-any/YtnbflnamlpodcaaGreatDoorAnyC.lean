/-
  For all lists of numbers raw and order and all numbers k, n, chunk and more the call Any of the program's statements returns true, whatever the schedule, without a data race, and leaves its arguments as they were; no condition; the six variables that it reads are tied to the program's own text (the card).
-/
import Derived.Test.YtnbflnamlpodcaaGreatDoorCards
import Derived.Test.YtnbflnamlpodcaaGreatDoorTie
import Derived.Test.YtnbflnamlpodcaaGreatDoorLdA
import Derived.Conc.LeavingOf
import Derived.ShutString
set_option maxRecDepth 100000
namespace Go.Proofs.YtnbflnamlpodcaaGreatDoor.any
open Go.Proofs.Y
open Go.ChangeShapes Go.WideShapes Go.ChangeAt Go.RowKit Go.Conc Go.Deep
theorem own:ownKnob Tryz.prog.godebug=none:=ag
theorem laidOut:laidOutB Tryz.prog=true:=ag
theorem akE{W:World}(h:laidMetH Tryz.prog Rows.anyRow.laid W):∃a,Gl a W:=by have hP:=adI h;obtain⟨a,hE⟩:=YV h;exact⟨a,adJ h,hP.1,hP.2,hE,abP h⟩
theorem door_met(os:Os)(args:Array Value):laidMetH Tryz.prog Rows.anyRow.laid ((World.doorLaid Tryz.prog 400 os).forCall (λ_ _=>0) ⟨#[],args,[]⟩).memory:=
 laidMetH_of_parts3 (fuel:=8) (laidMet_of_run' 8 ag ag) ag ag
section
variable {H:Type}{enc:TypeId×Value->H}{P:Program}{w:World}
theorem six{t t1 t2 t3 t4 t5:TypeId}{args:Array Value}{ds:List (DataW H)}{ps:List MemPlace}{base:Nat}{spare:Nat->Bool}{held:Bool}(h:DataW.TrodAll enc P w base spare held [t,t1,t2,t3,t4,t5] args.toList ds ps):
  ∃v v1 v2 v3 v4 v5 d d1 d2 d3 d4 d5 p p1 p2 p3 p4 p5,args=#[v,v1,v2,v3,v4,v5]/\ds=[d,d1,d2,d3,d4,d5]/\ps=p++(p1++(p2++(p3++(p4++p5))))/\DataW.Trod enc P w base spare held t v d p/\DataW.Trod enc P w base spare held t1 v1 d1 p1/\DataW.Trod enc P w base spare held t2 v2 d2 p2/\DataW.Trod enc P w base spare held t3 v3 d3 p3/\DataW.Trod enc P w base spare held t4 v4 d4 p4/\DataW.Trod enc P w base spare held t5 v5 d5 p5:=by
 obtain⟨v,vs,d,ds',p,q,hargs,rfl,rfl,hd,hrest⟩:=trodAll_cons h;obtain⟨v1,vs1,d1,ds1,p1,q1,rfl,rfl,rfl,hd1,aiT⟩:=trodAll_cons hrest;obtain⟨v2,vs2,d2,ds2,p2,q2,rfl,rfl,rfl,hd2,aiU⟩:=trodAll_cons aiT;obtain⟨v3,vs3,d3,ds3,p3,q3,rfl,rfl,rfl,hd3,hrest3⟩:=trodAll_cons aiU;obtain⟨v4,vs4,d4,ds4,p4,q4,rfl,rfl,rfl,hd4,aiV⟩:=trodAll_cons hrest3;obtain⟨v5,vs5,d5,ds5,p5,q5,rfl,rfl,rfl,hd5,aiW⟩:=trodAll_cons aiV;obtain⟨rfl,rfl,rfl⟩:=trodAll_nil aiW;exact⟨v,v1,v2,v3,v4,v5,d,d1,d2,d3,d4,d5,p,p1,p2,p3,p4,p5,by cases args;simp_all,rfl,ai,hd,hd1,hd2,hd3,hd4,hd5⟩
theorem wf64{z:Int}(h:(Lit.int .i64 z).wf=true):In64 z:=by simp[Lit.wf,IntKind.min,IntKind.max,IntKind.signed,IntKind.bits]at h;unfold In64;omega
theorem open_list{t e:TypeId}{v:Value}{d:DataW H}{p:List MemPlace}{ts:List TypeId}{ds:List (DataW H)}{j base:Nat}(ht:P.underlying t=some (.slice e))(he:P.underlying e=some (.int .i64))(hc:P.cellsOf e=1)(hb:P.bytesOf e=8)
  (hsz:(DataW.weightsEach P ts ds).all (· <=reachBytes)=true) (hj:ts[j]?=some t) (hd:ds[j]?=some d) (hok:Value.okWide P w .any base t v) (hlt:∀x∈p,x.block<w.heap.size) (h:DataW.Trod enc P w 0 (λ_=>true) true t v d p):
  ∃zs:List Int,Ints w v zs/\zs.length<9223372036854775807:=by
 obtain⟨a0,len,cap,rfl⟩:=okWide_slice ht hok;obtain⟨fuel,hf⟩:=h;rcases open_ints ht he hc hf with⟨hcs,_⟩|⟨a,len',cap',zs,hcs,_,hl,hm,hz,hx,hcell,hwz⟩
 .simp[Value.cells]at hcs;obtain⟨rfl,rfl,rfl⟩:=hcs;exact⟨[],⟨ai,.inl ⟨_,_,rfl,rfl⟩⟩,ai⟩
 .simp[Value.cells]at hcs;obtain⟨rfl,rfl,rfl⟩:=hcs;simp only[lQ]at hx;obtain⟨rfl,rfl⟩:=hx;simp only[aF]at hz;have hreach:=sized_slice hsz hj hd ht;rw[hb]at hreach;simp only[lits,iK,gu,gY,reachBytes]at hreach;have hlen:(zs.take len).length=len:=az;refine⟨zs.take len,⟨λz hz'=>wf64 (hwz z (ao1 hz')),?_⟩,by rw[hlen];omega⟩;by_cases h0:len=0
  .subst h0;exact .inl ⟨_,_,ai,rfl⟩
  .obtain⟨b,off,sp⟩:=a;have hspot:sp=none:=by simpa[Addr.add]using World.cell?_spot (hcell 0 ae)
   subst hspot;refine .inr ⟨b,off,cap,by rw[hlen],?_,λj z hz'=>?_⟩
   .exact hlt (.cell b off) (MemPlace.mem_row.2 ⟨0,ae,ai⟩)
   .have hj':j<len:=by
     have:=(dH.1 hz').1;omega
    have:=hcell j ae;rw[kF,aj hj']at hz';rw[aO,hz']at this
    have e:Addr.add ⟨b,off,none⟩ j=⟨b,off+j,none⟩:=by
     unfold Addr.add;split
     .rename_i h;obtain rfl:j=0:=oq;rfl
     .rfl
    rw[e]at this;exact this
end
theorem fits(os:Os)(H:Type)(enc:TypeId×Value->H):∃(w:World)(tape:Tape)(i:Input),w.os=os/\(w.forCall tape i).Shaped Tryz.prog/\i.vars=[]/\Input.okWide Tryz.prog (w.forCall tape i) .any w.heap.size 3 i/\
  (OpenSpec.ofChange Rows.anySpec).preRow enc Tryz.prog Tryz.f3 Rows.anyRow.domain false Rows.anyRow.laid (w.forCall tape i).memory i.args/\({}:Assume).holds Tryz.prog (lone (Frame.enter Tryz.prog 3 i.args .normal) [] (w.forCall tape i)):=by
 have hok:Input.okWideB Tryz.prog ((World.doorLaid Tryz.prog 400 os).forCall (λ_ _=>0) ⟨#[],#[.slice none 0 0,.int .i64 0,.int .i64 0,.int .i64 0,.slice none 0 0,.int .i64 0],[]⟩) 3 ⟨#[],#[.slice none 0 0,.int .i64 0,.int .i64 0,.int .i64 0,.slice none 0 0,.int .i64 0],[]⟩=true:=ag;have hx:DataW.whole enc Tryz.prog ((World.doorLaid Tryz.prog 400 os).forCall (λ_ _=>0) ⟨#[],#[.slice none 0 0,.int .i64 0,.int .i64 0,.int .i64 0,.slice none 0 0,.int .i64 0],[]⟩).memory Tryz.f3.params.toList (OpenSpec.ofChange Rows.anySpec).vars false #[Value.slice none 0 0,.int .i64 0,.int .i64 0,.int .i64 0,.slice none 0 0,.int .i64 0].toList 8=some ([.nil,.lit (.int .i64 0),.lit (.int .i64 0),.lit (.int .i64 0),.nil,.lit (.int .i64 0)],[],[]):=ag;refine⟨World.doorLaid Tryz.prog 400 os,λ_ _=>0,⟨#[],#[.slice none 0 0,.int .i64 0,.int .i64 0,.int .i64 0,.slice none 0 0,.int .i64 0],[]⟩,rfl,World.shaped_of_RefB ag ag,(Input.okWide_of_okWideB (base:=0) hok).1,(Input.okWide_of_okWideB hok).2,OpenSpec.preRow_of_cond 8 hx ag (λk hk=>by cases hk) ag (door_met os _),?_⟩;simp only[Assume.holds];exact⟨ai,ai,λ_=>Modest.zero,ai,ai⟩
theorem lifted(os:Os)(started:os.Started)(H:Type)(enc:TypeId×Value->H)(F:Stop.Interp):
  ReturnsInLeavingWide {} Tryz.checked os 3 .any ((OpenSpec.ofChange Rows.anySpec).preRow enc Tryz.prog Tryz.f3 Rows.anyRow.domain false Rows.anyRow.laid) (((OpenSpec.ofChange Rows.anySpec).at F).post enc Tryz.prog Tryz.f3 false true false false):=by
 refine returnsInLeavingWide_of_good own started (fits os H enc) ?_;intro w tape i _ _ _ hok hpre _;obtain⟨_,_,_,fn',hfn',_,_,_,_,hval0⟩:=hok;obtain rfl:fn'=Tryz.f3:=d_ (hfn'.symm.trans Tryz.func3);obtain⟨⟨hp,hl⟩,hz⟩:=hpre;obtain⟨ds,gs,before,hw0,_,hk⟩:=OpenSpec.pre_parts hp;have hsz0:=hz.weights hw0;have hW:=DataW.Whole.of_heap (w':=w.forCall tape i) ax hw0;have hL:laidMetH Tryz.prog Rows.anyRow.laid (w.forCall tape i):=hl.of_heap ax;have hsz:(DataW.weightsEach Tryz.prog (Tryz.f3.params.toList++Rows.anySpec.plain.varTypes Tryz.prog) (ds++gs)).all (· <=reachBytes)=true:=hsz0;clear hk hp hl hw0 hz hsz0;generalize hargs:i.args=args at*;have hval:∀(j:Nat) t v,Tryz.f3.params[j]?=some t->args[j]?=some v->Value.okWide Tryz.prog (w.forCall tape i) .any w.heap.size t v:=λj t v h1 h2=>hval0 j t v h1 h2
 clear hval0;generalize w.heap.size=base at*
 suffices ∀W:World,(∀(j:Nat) t v,Tryz.f3.params[j]?=some t->args[j]?=some v->Value.okWide Tryz.prog W .any base t v)->DataW.Whole enc Tryz.prog Tryz.f3.params.toList (OpenSpec.ofChange Rows.anySpec).vars false W args.toList ds gs before->laidMetH Tryz.prog Rows.anyRow.laid W->
   ∃M last o w' t',runNT Tryz.prog (M+1) (solo (G (Frame.enter Tryz.prog 3 args .normal) []) W) #[]=(.ended o w',t')/\runN Tryz.prog M (solo (G (Frame.enter Tryz.prog 3 args .normal) []) W)=.next last/\step Tryz.prog last=.ended o w'/\Conc.Good Tryz.prog (λv W'=>Rows.anySpec.post enc Tryz.prog Tryz.f3 false true false false W args v W') last o w' t' by
  obtain⟨M,last,o,w',t',h1,h2,h3,h4⟩:=this (w.forCall tape i) hval hW hL;exact⟨M,last,o,w',t',h1,h2,h3,h4.mono λv hp=>ChangeSpec.post_blind hp⟩
 clear hval hW hL;intro W hval hW hL;have hW':=hW;obtain⟨p,q,hA0,hV,rfl,_,_⟩:=hW;have hA:DataW.TrodAll enc Tryz.prog W 0 (λ_=>true) true Tryz.f3.params.toList args.toList ds p:=hA0;rw[Tryz.params3]at hA hval hsz;obtain⟨v0,v1,v2,v3,v4,v5,d0,d1,d2,d3,d4,d5,p0,p1,p2,p3,p4,p5,rfl,rfl,rfl,h0,h1,h2,h3,h4,h5⟩:=six hA;obtain⟨rfl,rfl⟩:=trodVars_none hV;obtain⟨a1,rfl,rfl,rfl,w1⟩:=open_int Tryz.underlying3 (hval 1 3 v1 rfl rfl) h1;obtain⟨a2,rfl,rfl,rfl,w2⟩:=open_int Tryz.underlying3 (hval 2 3 v2 rfl rfl) h2;obtain⟨a3,rfl,rfl,rfl,w3⟩:=open_int Tryz.underlying3 (hval 3 3 v3 rfl rfl) h3;obtain⟨a5,rfl,rfl,rfl,w5⟩:=open_int Tryz.underlying3 (hval 5 3 v5 rfl rfl) h5;clear hA0 hA;simp only[dC]at hW'
 have hlt0:∀x∈p0,x.block<W.heap.size:=λx hx=>by have:=hW'.lt x jM;exact aqb
 obtain⟨zr,hr,hlr⟩:=open_list (j:=0) Tryz.underlying22 Tryz.underlying3 ag ag hsz rfl rfl (hval 0 22 v0 rfl rfl) hlt0 h0
 have hlt4:∀x∈p4,x.block<W.heap.size:=λx hx=>by have:=hW'.lt x jM;exact aqb
 obtain⟨zo,ho,hlo⟩:=open_list (j:=4) Tryz.underlying22 Tryz.underlying3 ag ag hsz rfl rfl (hval 4 22 v4 rfl rfl) hlt4 h4;obtain⟨a,hG⟩:=akE hL;have run:=any_ok hr hlr ho hlo (wf64 w1) (wf64 w2) (wf64 w3) (wf64 w5) hG;obtain⟨M,last,o,w',t',r1,r2,r3,r4⟩:=run;refine⟨M,last,o,w',t',r1,r2,r3,r4.mono λv hF=>?_⟩;obtain⟨rfl,hkp⟩:=hF;have bel:Below W.heap.size W {w' with tape:=W.tape}:=⟨hkp.os,rfl,hkp.output,hkp.size,hkp.block⟩
 have stays:∀{t:TypeId}{v:Value}{d:DataW H}{ps:List MemPlace},Tryz.prog.readableRec t=true->t<Tryz.prog.types.size->DataW.Trod enc Tryz.prog W 0 (λ_=>true) true t v d ps->(∀x∈ps,x.block<W.heap.size)->DataW.Trod enc Tryz.prog w' 0 (λb=>decide (b<W.heap.size)) true t v d ps:=
  λhr hrow h hl=>WideElems.Trod_stays laidOut hr hrow h (λx hx=>bel.same (hl x hx)) (λx hx=>by simpa using hl x hx)
 have fr:∀may,W.keptBut w' may:=λmay=>by have h:=bel.frame may;exact⟨h.1,h.2.1,h.2.2⟩
 have s0:=stays ag (gQ ag) h0 hlt0;have s4:=stays ag (gQ ag) h4 hlt4;exact⟨_,_,_,[],_,[],hW',trodAll_mk1 (shut_bool Tryz.underlying4 _),⟨_,_,s0,⟨_,_,shut_int Tryz.underlying3 w1,⟨_,_,shut_int Tryz.underlying3 w2,⟨_,_,shut_int Tryz.underlying3 w3,⟨_,_,s4,trodAll_mk1 (shut_int Tryz.underlying3 w5),rfl⟩,rfl⟩,rfl⟩,rfl⟩,rfl⟩,rfl,fr _,λh=>dZ⟩
theorem reads:(∀t∈Tryz.f3.params,Tryz.prog.readableRec t=true)/\∀t∈Tryz.f3.resultTypes,Tryz.prog.readableRec t=true/\t<Tryz.prog.types.size:=by
 have h1:(Tryz.f3.params.toList.all λt=>Tryz.prog.readableRec t)=true:=ag;have h2:(Tryz.f3.resultTypes.toList.all λt=>Tryz.prog.readableRec t&&decide (t<Tryz.prog.types.size))=true:=ag
 exact⟨λt ht=>iP.1 h1 t mD,λt ht=>by have:=iP.1 h2 t mD;simpa using this⟩
theorem calm(os:Os):Stop.quiet Tryz.prog os:=λk hk=>by have e:Tryz.prog.stopKnobs=[]:=ag;rw[e]at hk;cases hk
theorem over:Rows.AnySaid:=by
 unfold Rows.AnySaid OpenClaim.holds
 refine⟨ag,rfl,rfl,rfl,laidOut,ag,(show Tryz.prog.mayEnter=true by kernel_rfl),⟨rfl,rfl,rfl,rfl,rfl,rfl,rfl⟩,3,Tryz.f3,ag,Tryz.func3,reads,(λh=>dZ),ag,
  gQ ag,(by unfold Func.isWrapper;first|(rw[aj gJ];kernel_rfl)|(rw[ah gJ];exact⟨rfl,rfl⟩)),
  by kernel_rfl,⟨ag,ag,ag⟩,ag,ag,ag,ag,ag,⟨ag,ag,ag⟩,⟨ag,ag⟩,⟨ag,ag,ag,ag⟩,⟨ag,ag,ag,ag⟩,ag,(λn hn=>by cases hn),⟨_,WideRow.started_initial,calm _⟩,[],rfl,?_⟩
 intro os st _ H enc _;rw[OpenClaim.post_not_still rfl,OpenClaim.pre_eq_preRow];intro F;exact lifted os st H enc F ag
theorem looksAt:∀f fn,Tryz.pinned.checked.prog.funcNamed Rows.anyRow.func=some f->Tryz.pinned.checked.prog.funcs[f]?=some fn->true=Tryz.pinned.checked.prog.looks []/\∀(j:Nat) t,fn.params[j]?=some t->Tryz.pinned.checked.prog.wantsStandIn t=false:=λf fn hf hfn=>by
 obtain rfl:f=3:=d_ ((show Tryz.prog.funcNamed "cairn/cairnkeep.Any" =some 3 by kernel_rfl).symm.trans hf)|>.symm;obtain rfl:fn=Tryz.f3:=(d_ (Tryz.func3.symm.trans hfn)).symm
 exact⟨ag,λj t ht=>by
  rw[Tryz.params3]at ht;have hm:t∈[22,3,3,3,22,3]:=by simpa using dX ht
  have hall:([22,3,3,3,22,3].all λu=>!Tryz.prog.wantsStandIn u)=true:=ag;exact(show Tryz.prog.wantsStandIn t=false by simpa using iP.1 hall t hm)⟩
theorem proved:Rows.AnyCardSaid:=
 ⟨Claim7.tied_new_at .later [.data,.data,.data,.data,.handle,.sentinel] true (Claim7.new_of_sixth over Rows.anyCard.stood.harness true rfl ⟨rfl,rfl⟩ ag ag looksAt) ag,(λ_ h=>dZ),any_row_tie,(λh=>dZ),ag⟩
