/-
  For all lists of numbers raw and all numbers k, n, chunk, mix and spoil the call Honest of the program's statements returns true, whatever the schedule, without a data race, and leaves its arguments as they were; no condition; the six variables that it reads are tied to the program's own text (the card).
-/
import Derived.Test.YtnbflnamlpodcaaGreatDoorCards
import Derived.Test.YtnbflnamlpodcaaGreatDoorTie
import Derived.Test.YtnbflnamlpodcaaGreatDoorLdA
import Derived.Conc.LeavingOf
import Derived.ShutString
set_option maxRecDepth 100000
namespace Go.Proofs.YtnbflnamlpodcaaGreatDoor.honest
open Go.Proofs.Y
open Go.ChangeShapes Go.WideShapes Go.ChangeAt Go.RowKit Go.Conc Go.Deep
theorem own:ownKnob Tryz.prog.godebug=none:=aj
theorem laidOut:laidOutB Tryz.prog=true:=aj
theorem arJ{W:ah}(h:laidMetH Tryz.prog Rows.honestRow.laid W):∃a,Gl a W:=by have hP:=aj_ h;obtain⟨a,hE⟩:=adY h;exact⟨a,aka h,hP.1,hP.2,hE,ag4 h⟩
theorem alB(os:Os)(args:aB):laidMetH Tryz.prog Rows.honestRow.laid ((World.doorLaid Tryz.prog 400 os).forCall (λ_ _=>0) ⟨#[],args,[]⟩).memory:=
 laidMetH_of_parts3 (fuel:=8) (laidMet_of_run' 8 aj aj) aj aj
section
variable {H:Type}{enc:aF×ai->H}{P:aN}{w:ah}
theorem six{t t1 t2 t3 t4 t5:aF}{args:aB}{ds:List (DataW H)}{ps:List MemPlace}{base:Nat}{spare:Nat->Bool}{held:Bool}(h:DataW.TrodAll enc P w base spare held [t,t1,t2,t3,t4,t5] args.toList ds ps):
  ∃v v1 v2 v3 v4 v5 d d1 d2 d3 d4 d5 p p1 p2 p3 p4 p5,args=#[v,v1,v2,v3,v4,v5]/\ds=[d,d1,d2,d3,d4,d5]/\ps=p++(p1++(p2++(p3++(p4++p5))))/\DataW.Trod enc P w base spare held t v d p/\DataW.Trod enc P w base spare held t1 v1 d1 p1/\DataW.Trod enc P w base spare held t2 v2 d2 p2/\DataW.Trod enc P w base spare held t3 v3 d3 p3/\DataW.Trod enc P w base spare held t4 v4 d4 p4/\DataW.Trod enc P w base spare held t5 v5 d5 p5:=by
 obtain⟨v,vs,d,ds',p,q,asE,rfl,rfl,hd,ac3⟩:=trodAll_cons h;obtain⟨v1,vs1,d1,ds1,p1,q1,rfl,rfl,rfl,hd1,apM⟩:=trodAll_cons ac3;obtain⟨v2,vs2,d2,ds2,p2,q2,rfl,rfl,rfl,hd2,apN⟩:=trodAll_cons apM;obtain⟨v3,vs3,d3,ds3,p3,q3,rfl,rfl,rfl,hd3,aqA⟩:=trodAll_cons apN;obtain⟨v4,vs4,d4,ds4,p4,q4,rfl,rfl,rfl,hd4,apO⟩:=trodAll_cons aqA;obtain⟨v5,vs5,d5,ds5,p5,q5,rfl,rfl,rfl,hd5,apP⟩:=trodAll_cons apO;obtain⟨rfl,rfl,rfl⟩:=trodAll_nil apP;exact⟨v,v1,v2,v3,v4,v5,d,d1,d2,d3,d4,d5,p,p1,p2,p3,p4,p5,by cases args;simp_all,rfl,ax,hd,hd1,hd2,hd3,hd4,hd5⟩
theorem ahV{z:Int}(h:(Lit.int .i64 z).wf=true):Jg z:=by simp[Lit.wf,IntKind.min,IntKind.max,IntKind.signed,IntKind.bits]at h;unfold Jg;omega
theorem ahW{t e:aF}{v:ai}{d:DataW H}{p:List MemPlace}{ts:List aF}{ds:List (DataW H)}{j base:Nat}(ht:P.underlying t=some (.slice e))(he:P.underlying e=some (.int .i64))(hc:P.cellsOf e=1)(hb:P.bytesOf e=8)
  (hsz:(DataW.weightsEach P ts ds).all (· <=reachBytes)=true) (hj:ts[j]?=some t) (hd:ds[j]?=some d) (Em:Value.okWide P w .any base t v) (qK:∀x∈p,x.block<w.heap.size) (h:DataW.Trod enc P w 0 (λ_=>true) true t v d p):
  ∃zs:di,Uc w v zs/\zs.length<9223372036854775807:=by
 obtain⟨a0,len,cap,rfl⟩:=okWide_slice ht Em;obtain⟨fuel,hf⟩:=h;rcases open_ints ht he hc hf with⟨hcs,_⟩|⟨a,au9,Wn,zs,hcs,_,hl,hm,hz,hx,hcell,hwz⟩
 .simp[Value.cells]at hcs;obtain⟨rfl,rfl,rfl⟩:=hcs;exact⟨[],⟨ax,.inl ⟨_,_,rfl,rfl⟩⟩,ax⟩
 .simp[Value.cells]at hcs;obtain⟨rfl,rfl,rfl⟩:=hcs;simp only[nH]at hx;obtain⟨rfl,rfl⟩:=hx;simp only[aX]at hz;have alC:=sized_slice hsz hj hd ht;rw[hb]at alC;simp only[lits,ji,gZ,iG,reachBytes]at alC;have hlen:(zs.take len).length=len:=aS;refine⟨zs.take len,⟨λz hz'=>ahV (hwz z (aw8 hz')),?_⟩,by rw[hlen];omega⟩;by_cases h0:len=0
  .subst h0;exact .inl ⟨_,_,ax,rfl⟩
  .obtain⟨b,off,sp⟩:=a;have acZ:sp=none:=by simpa[Addr.add]using World.cell?_spot (hcell 0 ag)
   subst acZ;refine .inr ⟨b,off,cap,by rw[hlen],?_,λj z hz'=>?_⟩
   .exact qK (.cell b off) (MemPlace.mem_row.2 ⟨0,ag,ax⟩)
   .have Jh:j<len:=by
     have:=(fJ.1 hz').1;omega
    have:=hcell j ag;rw[jX,ay Jh]at hz';rw[bH,hz']at this
    have e:Addr.add ⟨b,off,none⟩ j=⟨b,off+j,none⟩:=by
     unfold Addr.add;split
     .rename_i h;obtain rfl:j=0:=mD;rfl
     .rfl
    rw[e]at this;exact this
end
theorem fits(os:Os)(H:Type)(enc:aF×ai->H):∃(w:ah)(tape:Tape)(i:Input),w.os=os/\(w.forCall tape i).Shaped Tryz.prog/\i.vars=[]/\Input.okWide Tryz.prog (w.forCall tape i) .any w.heap.size 5 i/\
  (OpenSpec.ofChange Rows.honestSpec).preRow enc Tryz.prog Tryz.f5 Rows.honestRow.domain false Rows.honestRow.laid (w.forCall tape i).memory i.args/\({}:Assume).holds Tryz.prog (lone (Frame.enter Tryz.prog 5 i.args .normal) [] (w.forCall tape i)):=by
 have Em:Input.okWideB Tryz.prog ((World.doorLaid Tryz.prog 400 os).forCall (λ_ _=>0) ⟨#[],#[.slice none 0 0,.int .i64 0,.int .i64 0,.int .i64 0,.int .i64 0,.int .i64 0],[]⟩) 5 ⟨#[],#[.slice none 0 0,.int .i64 0,.int .i64 0,.int .i64 0,.int .i64 0,.int .i64 0],[]⟩=true:=aj;have hx:DataW.whole enc Tryz.prog ((World.doorLaid Tryz.prog 400 os).forCall (λ_ _=>0) ⟨#[],#[.slice none 0 0,.int .i64 0,.int .i64 0,.int .i64 0,.int .i64 0,.int .i64 0],[]⟩).memory Tryz.f5.params.toList (OpenSpec.ofChange Rows.honestSpec).vars false #[Value.slice none 0 0,.int .i64 0,.int .i64 0,.int .i64 0,.int .i64 0,.int .i64 0].toList 8=some ([.nil,.lit (.int .i64 0),.lit (.int .i64 0),.lit (.int .i64 0),.lit (.int .i64 0),.lit (.int .i64 0)],[],[]):=aj;refine⟨World.doorLaid Tryz.prog 400 os,λ_ _=>0,⟨#[],#[.slice none 0 0,.int .i64 0,.int .i64 0,.int .i64 0,.int .i64 0,.int .i64 0],[]⟩,rfl,World.shaped_of_RefB aj aj,(Input.okWide_of_okWideB (base:=0) Em).1,(Input.okWide_of_okWideB Em).2,OpenSpec.preRow_of_cond 8 hx aj (λk hk=>by cases hk) aj (alB os _),?_⟩;simp only[Assume.holds];exact⟨ax,ax,λ_=>Modest.zero,ax,ax⟩
theorem lifted(os:Os)(started:os.Started)(H:Type)(enc:aF×ai->H)(F:Stop.Interp):
  ReturnsInLeavingWide {} Tryz.checked os 5 .any ((OpenSpec.ofChange Rows.honestSpec).preRow enc Tryz.prog Tryz.f5 Rows.honestRow.domain false Rows.honestRow.laid) (((OpenSpec.ofChange Rows.honestSpec).at F).post enc Tryz.prog Tryz.f5 false true false false):=by
 refine returnsInLeavingWide_of_good own started (fits os H enc) ?_;intro w tape i _ _ _ Em xE _;obtain⟨_,_,_,fn',auo,_,_,_,_,aom⟩:=Em;obtain rfl:fn'=Tryz.f5:=gp (auo.symm.trans Tryz.func5);obtain⟨⟨hp,hl⟩,hz⟩:=xE;obtain⟨ds,gs,before,Nu,_,hk⟩:=OpenSpec.pre_parts hp;have XW:=hz.weights Nu;have hW:=DataW.Whole.of_heap (w':=w.forCall tape i) aI Nu;have hL:laidMetH Tryz.prog Rows.honestRow.laid (w.forCall tape i):=hl.of_heap aI;have hsz:(DataW.weightsEach Tryz.prog (Tryz.f5.params.toList++Rows.honestSpec.plain.varTypes Tryz.prog) (ds++gs)).all (· <=reachBytes)=true:=XW;clear hk hp hl Nu hz XW;generalize asE:i.args=args at*;have hval:∀(j:Nat) t v,Tryz.f5.params[j]?=some t->args[j]?=some v->Value.okWide Tryz.prog (w.forCall tape i) .any w.heap.size t v:=λj t v h1 h2=>aom j t v h1 h2
 clear aom;generalize w.heap.size=base at*
 suffices ∀W:ah,(∀(j:Nat) t v,Tryz.f5.params[j]?=some t->args[j]?=some v->Value.okWide Tryz.prog W .any base t v)->DataW.Whole enc Tryz.prog Tryz.f5.params.toList (OpenSpec.ofChange Rows.honestSpec).vars false W args.toList ds gs before->laidMetH Tryz.prog Rows.honestRow.laid W->
   ∃M last o w' t',runNT Tryz.prog (M+1) (solo (G (Frame.enter Tryz.prog 5 args .normal) []) W) #[]=(.ended o w',t')/\runN Tryz.prog M (solo (G (Frame.enter Tryz.prog 5 args .normal) []) W)=.next last/\step Tryz.prog last=.ended o w'/\Conc.Good Tryz.prog (λv W'=>Rows.honestSpec.post enc Tryz.prog Tryz.f5 false true false false W args v W') last o w' t' by
  obtain⟨M,last,o,w',t',h1,h2,h3,h4⟩:=this (w.forCall tape i) hval hW hL;exact⟨M,last,o,w',t',h1,h2,h3,h4.mono λv hp=>ChangeSpec.post_blind hp⟩
 clear hval hW hL;intro W hval hW hL;have hW':=hW;obtain⟨p,q,hA0,hV,rfl,_,_⟩:=hW;have hA:DataW.TrodAll enc Tryz.prog W 0 (λ_=>true) true Tryz.f5.params.toList args.toList ds p:=hA0;rw[Tryz.params5]at hA hval hsz;obtain⟨v0,v1,v2,v3,v4,v5,d0,d1,d2,d3,d4,d5,p0,p1,p2,p3,p4,p5,rfl,rfl,rfl,h0,h1,h2,h3,h4,h5⟩:=six hA;obtain⟨rfl,rfl⟩:=trodVars_none hV;obtain⟨a1,rfl,rfl,rfl,w1⟩:=open_int Tryz.underlying3 (hval 1 3 v1 rfl rfl) h1;obtain⟨a2,rfl,rfl,rfl,w2⟩:=open_int Tryz.underlying3 (hval 2 3 v2 rfl rfl) h2;obtain⟨a3,rfl,rfl,rfl,w3⟩:=open_int Tryz.underlying3 (hval 3 3 v3 rfl rfl) h3;obtain⟨a4,rfl,rfl,rfl,w4⟩:=open_int Tryz.underlying3 (hval 4 3 v4 rfl rfl) h4;obtain⟨a5,rfl,rfl,rfl,w5⟩:=open_int Tryz.underlying3 (hval 5 3 v5 rfl rfl) h5;clear hA0 hA;simp only[d_]at hW'
 have aqB:∀x∈p0,x.block<W.heap.size:=λx hx=>by have:=hW'.lt x mM;exact ayh
 obtain⟨zr,hr,hlr⟩:=ahW (j:=0) Tryz.underlying22 Tryz.underlying3 aj aj hsz rfl rfl (hval 0 22 v0 rfl rfl) aqB h0;obtain⟨a,hG⟩:=arJ hL;have run:=ag5 hr hlr (ahV w1) (ahV w2) (ahV w3) (ahV w4) (ahV w5) hG;obtain⟨M,last,o,w',t',r1,r2,r3,r4⟩:=run;refine⟨M,last,o,w',t',r1,r2,r3,r4.mono λv hF=>?_⟩;obtain⟨rfl,hkp⟩:=hF;have AO:Below W.heap.size W {w' with tape:=W.tape}:=⟨hkp.os,rfl,hkp.output,hkp.size,hkp.block⟩
 have stays:∀{t:aF}{v:ai}{d:DataW H}{ps:List MemPlace},Tryz.prog.readableRec t=true->t<Tryz.prog.types.size->DataW.Trod enc Tryz.prog W 0 (λ_=>true) true t v d ps->(∀x∈ps,x.block<W.heap.size)->DataW.Trod enc Tryz.prog w' 0 (λb=>decide (b<W.heap.size)) true t v d ps:=
  λhr Uf h hl=>WideElems.Trod_stays laidOut hr Uf h (λx hx=>AO.same (hl x hx)) (λx hx=>by simpa using hl x hx)
 have fr:∀may,W.keptBut w' may:=λmay=>by have h:=AO.frame may;exact⟨h.1,h.2.1,h.2.2⟩
 have s0:=stays aj (iZ aj) h0 aqB;exact⟨_,_,_,[],_,[],hW',trodAll_mk1 (shut_bool Tryz.underlying4 _),⟨_,_,s0,⟨_,_,shut_int Tryz.underlying3 w1,⟨_,_,shut_int Tryz.underlying3 w2,⟨_,_,shut_int Tryz.underlying3 w3,⟨_,_,shut_int Tryz.underlying3 w4,trodAll_mk1 (shut_int Tryz.underlying3 w5),rfl⟩,rfl⟩,rfl⟩,rfl⟩,rfl⟩,rfl,fr _,λh=>f_⟩
theorem reads:(∀t∈Tryz.f5.params,Tryz.prog.readableRec t=true)/\∀t∈Tryz.f5.resultTypes,Tryz.prog.readableRec t=true/\t<Tryz.prog.types.size:=by
 have h1:(Tryz.f5.params.toList.all λt=>Tryz.prog.readableRec t)=true:=aj;have h2:(Tryz.f5.resultTypes.toList.all λt=>Tryz.prog.readableRec t&&decide (t<Tryz.prog.types.size))=true:=aj
 exact⟨λt ht=>jF.1 h1 t nY,λt ht=>by have:=jF.1 h2 t nY;simpa using this⟩
theorem calm(os:Os):Stop.quiet Tryz.prog os:=λk hk=>by have e:Tryz.prog.stopKnobs=[]:=aj;rw[e]at hk;cases hk
theorem over:Rows.HonestSaid:=by
 unfold Rows.HonestSaid OpenClaim.holds
 refine⟨aj,rfl,rfl,rfl,laidOut,aj,(show Tryz.prog.mayEnter=true by kernel_rfl),⟨rfl,rfl,rfl,rfl,rfl,rfl,rfl⟩,5,Tryz.f5,aj,Tryz.func5,reads,(λh=>f_),aj,
  iZ aj,(by unfold Func.isWrapper;first|(rw[ay iM];kernel_rfl)|(rw[au iM];exact⟨rfl,rfl⟩)),
  by kernel_rfl,⟨aj,aj,aj⟩,aj,aj,aj,aj,aj,⟨aj,aj,aj⟩,⟨aj,aj⟩,⟨aj,aj,aj,aj⟩,⟨aj,aj,aj,aj⟩,aj,(λn hn=>by cases hn),⟨_,WideRow.started_initial,calm _⟩,[],rfl,?_⟩
 intro os st _ H enc _;rw[OpenClaim.post_not_still rfl,OpenClaim.pre_eq_preRow];intro F;exact lifted os st H enc F aj
theorem looksAt:∀f fn,Tryz.pinned.checked.prog.funcNamed Rows.honestRow.func=some f->Tryz.pinned.checked.prog.funcs[f]?=some fn->true=Tryz.pinned.checked.prog.looks []/\∀(j:Nat) t,fn.params[j]?=some t->Tryz.pinned.checked.prog.wantsStandIn t=false:=λf fn hf Oi=>by
 obtain rfl:f=5:=gp ((show Tryz.prog.funcNamed "cairn/cairnkeep.Honest" =some 5 by kernel_rfl).symm.trans hf)|>.symm;obtain rfl:fn=Tryz.f5:=(gp (Tryz.func5.symm.trans Oi)).symm
 exact⟨aj,λj t ht=>by
  rw[Tryz.params5]at ht;have hm:t∈[22,3,3,3,3,3]:=by simpa using fZ ht
  have w_:([22,3,3,3,3,3].all λu=>!Tryz.prog.wantsStandIn u)=true:=aj;exact(show Tryz.prog.wantsStandIn t=false by simpa using jF.1 w_ t hm)⟩
theorem proved:Rows.HonestCardSaid:=
 ⟨Claim7.tied_new_at .later [.data,.data,.data,.data,.handle,.sentinel] true (Claim7.new_of_sixth over Rows.honestCard.stood.harness true rfl ⟨rfl,rfl⟩ aj aj looksAt) aj,(λ_ h=>f_),honest_row_tie,(λh=>f_),aj⟩
