/-
  For all lists of numbers raw, from and by and all numbers k, n, chunk and which the call Damaged of the program's statements returns true, whatever the schedule, without a data race, and leaves its arguments as they were; no condition; the six variables that it reads are tied to the program's own text (the card).
-/
import Derived.Test.YtnbflnamlpodcaaGreatDoorCards
import Derived.Test.YtnbflnamlpodcaaGreatDoorTie
import Derived.Test.YtnbflnamlpodcaaGreatDoorLdA
import Derived.Conc.LeavingOf
import Derived.ShutString
set_option maxRecDepth 100000
namespace Go.Proofs.YtnbflnamlpodcaaGreatDoor.damaged
open Go.Proofs.Y
open Go.ChangeShapes Go.WideShapes Go.ChangeAt Go.RowKit Go.Conc Go.Deep
theorem own:ownKnob Tryz.prog.godebug=none:=ag
theorem laidOut:laidOutB Tryz.prog=true:=ag
theorem apX{W:World}(h:laidMetH Tryz.prog Rows.damagedRow.laid W):∃a,Gl a W:=by have hP:=ahY h;obtain⟨a,hE⟩:=acV h;exact⟨a,ahZ h,hP.1,hP.2,hE,afO h⟩
theorem akE(os:Os)(args:Array Value):laidMetH Tryz.prog Rows.damagedRow.laid ((World.doorLaid Tryz.prog 400 os).forCall (λ_ _=>0) ⟨#[],args,[]⟩).memory:=
 laidMetH_of_parts3 (fuel:=8) (laidMet_of_run' 8 ag ag) ag ag
section
variable {H:Type}{enc:TypeId×Value->H}{P:Program}{w:World}
theorem seven{t t1 t2 t3 t4 t5 t6:TypeId}{args:Array Value}{ds:List (DataW H)}{ps:List MemPlace}{base:Nat}{spare:Nat->Bool}{held:Bool}(h:DataW.TrodAll enc P w base spare held [t,t1,t2,t3,t4,t5,t6] args.toList ds ps):
  ∃v v1 v2 v3 v4 v5 v6 d d1 d2 d3 d4 d5 d6 p p1 p2 p3 p4 p5 p6,args=#[v,v1,v2,v3,v4,v5,v6]/\ds=[d,d1,d2,d3,d4,d5,d6]/\ps=p++(p1++(p2++(p3++(p4++(p5++p6)))))/\DataW.Trod enc P w base spare held t v d p/\DataW.Trod enc P w base spare held t1 v1 d1 p1/\DataW.Trod enc P w base spare held t2 v2 d2 p2/\DataW.Trod enc P w base spare held t3 v3 d3 p3/\DataW.Trod enc P w base spare held t4 v4 d4 p4/\DataW.Trod enc P w base spare held t5 v5 d5 p5/\DataW.Trod enc P w base spare held t6 v6 d6 p6:=by
 obtain⟨v,vs,d,ds',p,q,arn,rfl,rfl,hd,acr⟩:=trodAll_cons h;obtain⟨v1,vs1,d1,ds1,p1,q1,rfl,rfl,rfl,hd1,anL⟩:=trodAll_cons acr;obtain⟨v2,vs2,d2,ds2,p2,q2,rfl,rfl,rfl,hd2,anM⟩:=trodAll_cons anL;obtain⟨v3,vs3,d3,ds3,p3,q3,rfl,rfl,rfl,hd3,apo⟩:=trodAll_cons anM;obtain⟨v4,vs4,d4,ds4,p4,q4,rfl,rfl,rfl,hd4,anN⟩:=trodAll_cons apo;obtain⟨v5,vs5,d5,ds5,p5,q5,rfl,rfl,rfl,hd5,anO⟩:=trodAll_cons anN;obtain⟨v6,vs6,d6,ds6,p6,q6,rfl,rfl,rfl,hd6,anP⟩:=trodAll_cons anO;obtain⟨rfl,rfl,rfl⟩:=trodAll_nil anP;exact⟨v,v1,v2,v3,v4,v5,v6,d,d1,d2,d3,d4,d5,d6,p,p1,p2,p3,p4,p5,p6,by cases args;simp_all,rfl,ai,hd,hd1,hd2,hd3,hd4,hd5,hd6⟩
theorem akF{z:Int}(h:(Lit.int .i64 z).wf=true):Ie z:=by simp[Lit.wf,IntKind.min,IntKind.max,IntKind.signed,IntKind.bits]at h;unfold Ie;omega
theorem QB{t e:TypeId}{v:Value}{d:DataW H}{p:List MemPlace}{ts:List TypeId}{ds:List (DataW H)}{j base:Nat}(ht:P.underlying t=some (.slice e))(he:P.underlying e=some (.int .i64))(hc:P.cellsOf e=1)(hb:P.bytesOf e=8)
  (hsz:(DataW.weightsEach P ts ds).all (· <=reachBytes)=true) (hj:ts[j]?=some t) (hd:ds[j]?=some d) (DX:Value.okWide P w .any base t v) (qE:∀x∈p,x.block<w.heap.size) (h:DataW.Trod enc P w 0 (λ_=>true) true t v d p):
  ∃zs:List Int,IC w v zs/\zs.length<9223372036854775807:=by
 obtain⟨a0,len,cap,rfl⟩:=okWide_slice ht DX;obtain⟨fuel,hf⟩:=h;rcases open_ints ht he hc hf with⟨hcs,_⟩|⟨a,atF,aco,zs,hcs,_,hl,hm,hz,hx,hcell,hwz⟩
 .simp[Value.cells]at hcs;obtain⟨rfl,rfl,rfl⟩:=hcs;exact⟨[],⟨ai,.inl ⟨_,_,rfl,rfl⟩⟩,ai⟩
 .simp[Value.cells]at hcs;obtain⟨rfl,rfl,rfl⟩:=hcs;simp only[lZ]at hx;obtain⟨rfl,rfl⟩:=hx;simp only[aF]at hz;have akG:=sized_slice hsz hj hd ht;rw[hb]at akG;simp only[lits,iT,gB,g_,reachBytes]at akG;have hlen:(zs.take len).length=len:=az;refine⟨zs.take len,⟨λz hz'=>akF (hwz z (avj hz')),?_⟩,by rw[hlen];omega⟩;by_cases h0:len=0
  .subst h0;exact .inl ⟨_,_,ai,rfl⟩
  .obtain⟨b,off,sp⟩:=a;have acs:sp=none:=by simpa[Addr.add]using World.cell?_spot (hcell 0 ae)
   subst acs;refine .inr ⟨b,off,cap,by rw[hlen],?_,λj z hz'=>?_⟩
   .exact qE (.cell b off) (MemPlace.mem_row.2 ⟨0,ae,ai⟩)
   .have Pq:j<len:=by
     have:=(dS.1 hz').1;omega
    have:=hcell j ae;rw[kQ,aj Pq]at hz';rw[aO,hz']at this
    have e:Addr.add ⟨b,off,none⟩ j=⟨b,off+j,none⟩:=by
     unfold Addr.add;split
     .rename_i h;obtain rfl:j=0:=kZ;rfl
     .rfl
    rw[e]at this;exact this
end
theorem fits(os:Os)(H:Type)(enc:TypeId×Value->H):∃(w:World)(tape:Tape)(i:Input),w.os=os/\(w.forCall tape i).Shaped Tryz.prog/\i.vars=[]/\Input.okWide Tryz.prog (w.forCall tape i) .any w.heap.size 4 i/\
  (OpenSpec.ofChange Rows.damagedSpec).preRow enc Tryz.prog Tryz.f4 Rows.damagedRow.domain false Rows.damagedRow.laid (w.forCall tape i).memory i.args/\({}:Assume).holds Tryz.prog (lone (Frame.enter Tryz.prog 4 i.args .normal) [] (w.forCall tape i)):=by
 have DX:Input.okWideB Tryz.prog ((World.doorLaid Tryz.prog 400 os).forCall (λ_ _=>0) ⟨#[],#[.slice none 0 0,.int .i64 0,.int .i64 0,.int .i64 0,.int .i64 0,.slice none 0 0,.slice none 0 0],[]⟩) 4 ⟨#[],#[.slice none 0 0,.int .i64 0,.int .i64 0,.int .i64 0,.int .i64 0,.slice none 0 0,.slice none 0 0],[]⟩=true:=ag;have hx:DataW.whole enc Tryz.prog ((World.doorLaid Tryz.prog 400 os).forCall (λ_ _=>0) ⟨#[],#[.slice none 0 0,.int .i64 0,.int .i64 0,.int .i64 0,.int .i64 0,.slice none 0 0,.slice none 0 0],[]⟩).memory Tryz.f4.params.toList (OpenSpec.ofChange Rows.damagedSpec).vars false #[Value.slice none 0 0,.int .i64 0,.int .i64 0,.int .i64 0,.int .i64 0,.slice none 0 0,.slice none 0 0].toList 8=some ([.nil,.lit (.int .i64 0),.lit (.int .i64 0),.lit (.int .i64 0),.lit (.int .i64 0),.nil,.nil],[],[]):=ag;refine⟨World.doorLaid Tryz.prog 400 os,λ_ _=>0,⟨#[],#[.slice none 0 0,.int .i64 0,.int .i64 0,.int .i64 0,.int .i64 0,.slice none 0 0,.slice none 0 0],[]⟩,rfl,World.shaped_of_RefB ag ag,(Input.okWide_of_okWideB (base:=0) DX).1,(Input.okWide_of_okWideB DX).2,OpenSpec.preRow_of_cond 8 hx ag (λk hk=>by cases hk) ag (akE os _),?_⟩;simp only[Assume.holds];exact⟨ai,ai,λ_=>Modest.zero,ai,ai⟩
theorem lifted(os:Os)(started:os.Started)(H:Type)(enc:TypeId×Value->H)(F:Stop.Interp):
  ReturnsInLeavingWide {} Tryz.checked os 4 .any ((OpenSpec.ofChange Rows.damagedSpec).preRow enc Tryz.prog Tryz.f4 Rows.damagedRow.domain false Rows.damagedRow.laid) (((OpenSpec.ofChange Rows.damagedSpec).at F).post enc Tryz.prog Tryz.f4 false true false false):=by
 refine returnsInLeavingWide_of_good own started (fits os H enc) ?_;intro w tape i _ _ _ DX wZ _;obtain⟨_,_,_,fn',asH,_,_,_,_,ane⟩:=DX;obtain rfl:fn'=Tryz.f4:=eU (asH.symm.trans Tryz.func4);obtain⟨⟨hp,hl⟩,hz⟩:=wZ;obtain⟨ds,gs,before,L9,_,hk⟩:=OpenSpec.pre_parts hp;have Xc:=hz.weights L9;have hW:=DataW.Whole.of_heap (w':=w.forCall tape i) ax L9;have hL:laidMetH Tryz.prog Rows.damagedRow.laid (w.forCall tape i):=hl.of_heap ax;have hsz:(DataW.weightsEach Tryz.prog (Tryz.f4.params.toList++Rows.damagedSpec.plain.varTypes Tryz.prog) (ds++gs)).all (· <=reachBytes)=true:=Xc;clear hk hp hl L9 hz Xc;generalize arn:i.args=args at*;have hval:∀(j:Nat) t v,Tryz.f4.params[j]?=some t->args[j]?=some v->Value.okWide Tryz.prog (w.forCall tape i) .any w.heap.size t v:=λj t v h1 h2=>ane j t v h1 h2
 clear ane;generalize w.heap.size=base at*
 suffices ∀W:World,(∀(j:Nat) t v,Tryz.f4.params[j]?=some t->args[j]?=some v->Value.okWide Tryz.prog W .any base t v)->DataW.Whole enc Tryz.prog Tryz.f4.params.toList (OpenSpec.ofChange Rows.damagedSpec).vars false W args.toList ds gs before->laidMetH Tryz.prog Rows.damagedRow.laid W->
   ∃M last o w' t',runNT Tryz.prog (M+1) (solo (G (Frame.enter Tryz.prog 4 args .normal) []) W) #[]=(.ended o w',t')/\runN Tryz.prog M (solo (G (Frame.enter Tryz.prog 4 args .normal) []) W)=.next last/\step Tryz.prog last=.ended o w'/\Conc.Good Tryz.prog (λv W'=>Rows.damagedSpec.post enc Tryz.prog Tryz.f4 false true false false W args v W') last o w' t' by
  obtain⟨M,last,o,w',t',h1,h2,h3,h4⟩:=this (w.forCall tape i) hval hW hL;exact⟨M,last,o,w',t',h1,h2,h3,h4.mono λv hp=>ChangeSpec.post_blind hp⟩
 clear hval hW hL;intro W hval hW hL;have hW':=hW;obtain⟨p,q,hA0,hV,rfl,_,_⟩:=hW;have hA:DataW.TrodAll enc Tryz.prog W 0 (λ_=>true) true Tryz.f4.params.toList args.toList ds p:=hA0;rw[Tryz.params4]at hA hval hsz;obtain⟨v0,v1,v2,v3,v4,v5,v6,d0,d1,d2,d3,d4,d5,d6,p0,p1,p2,p3,p4,p5,p6,rfl,rfl,rfl,h0,h1,h2,h3,h4,h5,h6⟩:=seven hA;obtain⟨rfl,rfl⟩:=trodVars_none hV;obtain⟨a1,rfl,rfl,rfl,w1⟩:=open_int Tryz.underlying3 (hval 1 3 v1 rfl rfl) h1;obtain⟨a2,rfl,rfl,rfl,w2⟩:=open_int Tryz.underlying3 (hval 2 3 v2 rfl rfl) h2;obtain⟨a3,rfl,rfl,rfl,w3⟩:=open_int Tryz.underlying3 (hval 3 3 v3 rfl rfl) h3;obtain⟨a4,rfl,rfl,rfl,w4⟩:=open_int Tryz.underlying3 (hval 4 3 v4 rfl rfl) h4;clear hA0 hA;simp only[dD]at hW'
 have apq:∀x∈p0,x.block<W.heap.size:=λx hx=>by exact aw6
 obtain⟨zr,hr,hlr⟩:=QB (j:=0) Tryz.underlying22 Tryz.underlying3 ag ag hsz rfl rfl (hval 0 22 v0 rfl rfl) apq h0
 have apY:∀x∈p5,x.block<W.heap.size:=λx hx=>by exact aw6
 obtain⟨z5,ho5,arI⟩:=QB (j:=5) Tryz.underlying22 Tryz.underlying3 ag ag hsz rfl rfl (hval 5 22 v5 rfl rfl) apY h5
 have apZ:∀x∈p6,x.block<W.heap.size:=λx hx=>by exact aw6
 obtain⟨z6,ho6,arJ⟩:=QB (j:=6) Tryz.underlying22 Tryz.underlying3 ag ag hsz rfl rfl (hval 6 22 v6 rfl rfl) apZ h6;obtain⟨a,hG⟩:=apX hL;have run:=anQ hr hlr ho5 arI ho6 arJ (akF w1) (akF w2) (akF w3) (akF w4) hG;obtain⟨M,last,o,w',t',r1,r2,r3,r4⟩:=run;refine⟨M,last,o,w',t',r1,r2,r3,r4.mono λv hF=>?_⟩;obtain⟨rfl,hkp⟩:=hF;have AZ:Below W.heap.size W {w' with tape:=W.tape}:=⟨hkp.os,rfl,hkp.output,hkp.size,hkp.block⟩
 have stays:∀{t:TypeId}{v:Value}{d:DataW H}{ps:List MemPlace},Tryz.prog.readableRec t=true->t<Tryz.prog.types.size->DataW.Trod enc Tryz.prog W 0 (λ_=>true) true t v d ps->(∀x∈ps,x.block<W.heap.size)->DataW.Trod enc Tryz.prog w' 0 (λb=>decide (b<W.heap.size)) true t v d ps:=
  λhr SS h hl=>WideElems.Trod_stays laidOut hr SS h (λx hx=>AZ.same (hl x hx)) (λx hx=>by simpa using hl x hx)
 have fr:∀may,W.keptBut w' may:=λmay=>by have h:=AZ.frame may;exact⟨h.1,h.2.1,h.2.2⟩
 have s0:=stays ag (gp ag) h0 apq;have s5:=stays ag (gp ag) h5 apY;have s6:=stays ag (gp ag) h6 apZ;exact⟨_,_,_,[],_,[],hW',trodAll_mk1 (shut_bool Tryz.underlying4 _),⟨_,_,s0,⟨_,_,shut_int Tryz.underlying3 w1,⟨_,_,shut_int Tryz.underlying3 w2,⟨_,_,shut_int Tryz.underlying3 w3,⟨_,_,shut_int Tryz.underlying3 w4,⟨_,_,s5,trodAll_mk1 s6,rfl⟩,rfl⟩,rfl⟩,rfl⟩,rfl⟩,rfl⟩,rfl,fr _,λh=>eP⟩
theorem reads:(∀t∈Tryz.f4.params,Tryz.prog.readableRec t=true)/\∀t∈Tryz.f4.resultTypes,Tryz.prog.readableRec t=true/\t<Tryz.prog.types.size:=by
 have h1:(Tryz.f4.params.toList.all λt=>Tryz.prog.readableRec t)=true:=ag;have h2:(Tryz.f4.resultTypes.toList.all λt=>Tryz.prog.readableRec t&&decide (t<Tryz.prog.types.size))=true:=ag
 exact⟨λt ht=>iZ.1 h1 t mQ,λt ht=>by have:=iZ.1 h2 t mQ;simpa using this⟩
theorem calm(os:Os):Stop.quiet Tryz.prog os:=λk hk=>by have e:Tryz.prog.stopKnobs=[]:=ag;rw[e]at hk;cases hk
theorem over:Rows.DamagedSaid:=by
 unfold Rows.DamagedSaid OpenClaim.holds
 refine⟨ag,rfl,rfl,rfl,laidOut,ag,(show Tryz.prog.mayEnter=true by kernel_rfl),⟨rfl,rfl,rfl,rfl,rfl,rfl,rfl⟩,4,Tryz.f4,ag,Tryz.func4,reads,(λh=>eP),ag,
  gp ag,(by unfold Func.isWrapper;first|(rw[aj gW];kernel_rfl)|(rw[ah gW];exact⟨rfl,rfl⟩)),
  by kernel_rfl,⟨ag,ag,ag⟩,ag,ag,ag,ag,ag,⟨ag,ag,ag⟩,⟨ag,ag⟩,⟨ag,ag,ag,ag⟩,⟨ag,ag,ag,ag⟩,ag,(λn hn=>by cases hn),⟨_,WideRow.started_initial,calm _⟩,[],rfl,?_⟩
 intro os st _ H enc _;rw[OpenClaim.post_not_still rfl,OpenClaim.pre_eq_preRow];intro F;exact lifted os st H enc F ag
theorem looksAt:∀f fn,Tryz.pinned.checked.prog.funcNamed Rows.damagedRow.func=some f->Tryz.pinned.checked.prog.funcs[f]?=some fn->true=Tryz.pinned.checked.prog.looks []/\∀(j:Nat) t,fn.params[j]?=some t->Tryz.pinned.checked.prog.wantsStandIn t=false:=λf fn hf Nr=>by
 obtain rfl:f=4:=eU ((show Tryz.prog.funcNamed "cairn/cairnkeep.Damaged" =some 4 by kernel_rfl).symm.trans hf)|>.symm;obtain rfl:fn=Tryz.f4:=(eU (Tryz.func4.symm.trans Nr)).symm
 exact⟨ag,λj t ht=>by
  rw[Tryz.params4]at ht;have hm:t∈[22,3,3,3,3,22,22]:=by simpa using eG ht
  have xe:([22,3,3,3,3,22,22].all λu=>!Tryz.prog.wantsStandIn u)=true:=ag;exact(show Tryz.prog.wantsStandIn t=false by simpa using iZ.1 xe t hm)⟩
theorem proved:Rows.DamagedCardSaid:=
 ⟨Claim7.tied_new_at .later [.data,.data,.data,.data,.handle,.sentinel] true (Claim7.new_of_sixth over Rows.damagedCard.stood.harness true rfl ⟨rfl,rfl⟩ ag ag looksAt) ag,(λ_ h=>eP),damaged_row_tie,(λh=>eP),ag⟩
