/-
  For every list of texts (of bulk at most 1048576) the call Decodes of the program's statements returns true, whatever the schedule, without a data race, and leaves its argument as it was; the six variables that it reads are tied to the program's own text (the card).
-/
import Derived.Test.YtlghjjennhpjeaaGreatDoorCards
import Derived.Test.YtlghjjennhpjeaaGreatDoorTie
import Derived.Test.YtlghjjennhpjeaaGreatDoorDyE
import Derived.Conc.LeavingOf
set_option maxRecDepth 100000
namespace Go.Proofs.YtlghjjennhpjeaaGreatDoor.decodes
open Go.Proofs.Y
open Go.ChangeShapes Go.WideShapes Go.ChangeAt Go.RowKit Go.Conc Go.Deep
theorem own:ownKnob Tryz.prog.godebug=none:=ak
theorem laidOut:laidOutB Tryz.prog=true:=ak
theorem aqg{W:ah}(h:laidMetH Tryz.prog Rows.decodesUptoRow.laid W):∃a,Gl a W:=by have hP:=aiu h;obtain⟨a,hE⟩:=acY h;exact⟨a,aiv h,hP.1,hP.2,hE,af6 h⟩
theorem akQ(os:Os)(args:aH):laidMetH Tryz.prog Rows.decodesUptoRow.laid ((World.doorLaid Tryz.prog 400 os).forCall (λ_ _=>0) ⟨#[],args,[]⟩).memory:=
 laidMetH_of_parts3 (fuel:=8) (laidMet_of_run' 8 ak ak) ak ak
theorem aiw{H:Type}(d:DataW H):1<=Rows.uptoBulk d:=by
 cases d with
 |lit l=>cases l<;>simp[Rows.uptoBulk]
 |_=>simp[Rows.uptoBulk]
theorem aaK{H:Type}:∀l:List (DataW H),l.length<=Rows.uptoBulkAll l
 |[]=>iH _
 |d::l=>by have h1:=aiw d;have h2:=aaK l;simp only[dQ,Rows.uptoBulkAll];omega
theorem Xr{H:Type}{d:DataW H}:∀{l:List (DataW H)},d∈l->Rows.uptoBulk d<=Rows.uptoBulkAll l
 |x::l,h=>by
  simp only[Rows.uptoBulkAll];rcases dK.1 h with rfl|h
  .omega
  .have:=Xr h;omega
section
variable {H:Type}{enc:aG×ai->H}{P:aP}{w:ah}{base:Nat}{held:Bool}
theorem alG{a:Addr}{len cap:Nat}{xs:aK}(hl:xs.length=len)(hc:len<=cap)(h:∀j u,xs[j]?=some u->w.cell? (a.add j)=some u):qP w (.slice (some a) len cap) xs:=by
 subst hl;refine⟨some a,cap,rfl,hc,λj u hj=>?_⟩;obtain⟨b,off,sp⟩:=a
 have h0:∃u0,xs[0]?=some u0:=by have:j<xs.length:=(fB.1 hj).1;exact⟨_,bQ ag⟩
 obtain⟨u0,hu0⟩:=h0;have acz:sp=none:=by simpa[Addr.add]using World.cell?_spot (h 0 u0 hu0)
 subst acz;refine⟨b,off,rfl,?_⟩;rw[<-Hg];exact h j u hj
theorem acZ{t e:aG}{fuel:Nat}{v:ai}{d:DataW H}{ps:List MemPlace}(ht:P.underlying t=some (.slice e))(he:P.underlying e=some .string)(hc:P.cellsOf e=1)(hk:Rows.uptoBulk d<=1048576)(h:DataW.trod enc P w base (λ_=>true) held fuel t [v]=some (d,ps)):
  ∃ns:List (aj),qP w v (uU ns)/\ns.length<=1048576/\∀i,i<ns.length->(ns.getD i []).length<=1048576:=by
 rcases open_strings ht he hc h with⟨e1,_⟩|⟨a,len,cap,ss,e1,_,h1,h2,h3,hx,h4,h5⟩
 .cases e1;exact⟨[],⟨none,0,rfl,by simp[uU],λj u hj=>by simp[uU]at hj⟩,aA,λi hi=>qg⟩
 .cases e1;have hss:ss.length=cap:=by simpa using h3
  cases hx;have k1:=aaK (strs (H:=H) (ss.take len));simp only[Rows.uptoBulk,strs,jP,jf]at hk k1;refine⟨(ss.take len).map λs=>s.data.toList,alG (by simp[uU];omega) h1 (λj u hj=>?_),aJ,λi hi=>?_⟩
  .have NZ:j<len:=by
    have:=(fB.1 hj).1;simp[uU]at this;omega
   rw[h4 j ag];rw[Aq aJ]at hj;rw[<-hj]
   congr 2
   simp[NZ,bQ (show j<ss.length by omega)]
  .have IC:i<(ss.take len).length:=lg;have k2:=Xr (d:=(.lit (.string ((ss.take len)[i].data.toList)):DataW H)) (l:=(ss.take len).map λs=>.lit (.string s.data.toList)) (gI.2 ⟨_,List.getElem_mem IC,rfl⟩);simp only[Rows.uptoBulk]at k2;rw[bG,dV,bQ IC];show((ss.take len)[i].data.toList).length<=_;omega
end
theorem fits(os:Os)(H:Type)(enc:aG×ai->H):∃(w:ah)(tape:Tape)(i:Input),w.os=os/\(w.forCall tape i).Shaped Tryz.prog/\i.vars=[]/\Input.okWide Tryz.prog (w.forCall tape i) .any w.heap.size 3 i/\
  (Rows.OpenSpec.upto Rows.decodesSpec).preRow enc Tryz.prog Tryz.f3 Rows.decodesUptoRow.domain false Rows.decodesUptoRow.laid (w.forCall tape i).memory i.args/\({}:Assume).holds Tryz.prog (lone (Frame.enter Tryz.prog 3 i.args .normal) [] (w.forCall tape i)):=by
 have L8:Input.okWideB Tryz.prog ((World.doorLaid Tryz.prog 400 os).forCall (λ_ _=>0) ⟨#[],#[.slice none 0 0],[]⟩) 3 ⟨#[],#[.slice none 0 0],[]⟩=true:=ak;have hx:DataW.whole enc Tryz.prog ((World.doorLaid Tryz.prog 400 os).forCall (λ_ _=>0) ⟨#[],#[.slice none 0 0],[]⟩).memory Tryz.f3.params.toList (Rows.OpenSpec.upto Rows.decodesSpec).vars false #[Value.slice none 0 0].toList 8=some ([.nil],[],[]):=ak;refine⟨World.doorLaid Tryz.prog 400 os,λ_ _=>0,⟨#[],#[.slice none 0 0],[]⟩,rfl,World.shaped_of_RefB ak ak,(Input.okWide_of_okWideB (base:=0) L8).1,(Input.okWide_of_okWideB L8).2,OpenSpec.preRow_of_cond 8 hx ak (λk hk=>by cases hk;kernel_rfl) ak (akQ os _),?_⟩;simp only[Assume.holds];exact⟨aA,aA,λ_=>Modest.zero,aA,aA⟩
theorem lifted(os:Os)(started:os.Started)(H:Type)(enc:aG×ai->H)(F:Stop.Interp):
  ReturnsInLeavingWide {} Tryz.checked os 3 .any ((Rows.OpenSpec.upto Rows.decodesSpec).preRow enc Tryz.prog Tryz.f3 Rows.decodesUptoRow.domain false Rows.decodesUptoRow.laid) (((Rows.OpenSpec.upto Rows.decodesSpec).at F).post enc Tryz.prog Tryz.f3 false true false false):=by
 refine returnsInLeavingWide_of_good own started (fits os H enc) ?_;intro w tape i _ _ _ L8 yP _;obtain⟨_,_,_,fn',asT,_,_,_,_,anG⟩:=L8;obtain rfl:fn'=Tryz.f3:=gu (asT.symm.trans Tryz.func3);obtain⟨⟨hp,hl⟩,_⟩:=yP;obtain⟨ds,gs,before,Og,_,hk⟩:=OpenSpec.pre_parts hp;have hW:=DataW.Whole.of_heap (w':=w.forCall tape i) aF Og;have hL:laidMetH Tryz.prog Rows.decodesUptoRow.laid (w.forCall tape i):=hl.of_heap aF;have aqh:Rows.uptoBulkAll (ds++gs)<=1048576:=fK (hk _ rfl);clear hk hp hl Og;generalize atu:i.args=args at*;have hval:∀(j:Nat) t v,Tryz.f3.params[j]?=some t->args[j]?=some v->Value.okWide Tryz.prog (w.forCall tape i) .any w.heap.size t v:=λj t v h1 h2=>anG j t v h1 h2
 clear anG;generalize w.heap.size=base at*
 suffices ∀W:ah,(∀(j:Nat) t v,Tryz.f3.params[j]?=some t->args[j]?=some v->Value.okWide Tryz.prog W .any base t v)->DataW.Whole enc Tryz.prog Tryz.f3.params.toList (Rows.OpenSpec.upto Rows.decodesSpec).vars false W args.toList ds gs before->laidMetH Tryz.prog Rows.decodesUptoRow.laid W->
   ∃M last o w' t',runNT Tryz.prog (M+1) (solo (G (Frame.enter Tryz.prog 3 args .normal) []) W) #[]=(.ended o w',t')/\runN Tryz.prog M (solo (G (Frame.enter Tryz.prog 3 args .normal) []) W)=.next last/\step Tryz.prog last=.ended o w'/\Conc.Good Tryz.prog (λv W'=>Rows.decodesSpec.post enc Tryz.prog Tryz.f3 false true false false W args v W') last o w' t' by
  obtain⟨M,last,o,w',t',h1,h2,h3,h4⟩:=this (w.forCall tape i) hval hW hL;exact⟨M,last,o,w',t',h1,h2,h3,h4.mono λv hp=>ChangeSpec.post_blind hp⟩
 clear hval hW hL;intro W hval hW hL;have hW':=hW;obtain⟨p,q,hA0,hV,rfl,_,_⟩:=hW;have hA:DataW.TrodAll enc Tryz.prog W 0 (λ_=>true) true Tryz.f3.params.toList args.toList ds p:=hA0;rw[Tryz.params3]at hA hval;obtain⟨v0,d0,rfl,rfl,h0⟩:=trodAll_one hA;obtain⟨rfl,rfl⟩:=trodVars_none hV;clear hA0 hA;simp only[dX]at hW';have qB:∀x∈p,x.block<W.heap.size:=λx hx=>by simpa using hW'.lt x hx
 have h0k:=h0;obtain⟨ad,len,cp,ev⟩:=okWide_slice Tryz.underlying22 (hval 0 22 v0 rfl rfl);subst ev;obtain⟨fuel,hf⟩:=h0;obtain⟨ns,l4,b4,b5⟩:=acZ Tryz.underlying22 Tryz.underlying9 ak (by simp only[dX,Rows.uptoBulkAll]at aqh;omega) hf;obtain⟨a,hG⟩:=aqg hL;obtain⟨bq,cq,eq⟩:=l4.len;rw[xx]at eq;rw[eq]at l4 h0k hW'⊢;obtain⟨M,last,o,w',t',r1,r2,r3,r4⟩:=ac0 l4 b4 b5 hG;refine⟨M,last,o,w',t',r1,r2,r3,r4.mono λv hF=>?_⟩;obtain⟨rfl,hkp⟩:=hF;have xG:Below W.heap.size W {w' with tape:=W.tape}:=⟨hkp.os,rfl,hkp.output,hkp.size,hkp.block⟩
 have stays:∀{t:aG}{v:ai}{d:DataW H}{ps:List MemPlace},Tryz.prog.readableRec t=true->t<Tryz.prog.types.size->DataW.Trod enc Tryz.prog W 0 (λ_=>true) true t v d ps->(∀x∈ps,x.block<W.heap.size)->DataW.Trod enc Tryz.prog w' 0 (λb=>decide (b<W.heap.size)) true t v d ps:=
  λhr QK h hl=>WideElems.Trod_stays laidOut hr QK h (λx hx=>xG.same (hl x hx)) (λx hx=>by simpa using hl x hx)
 have fr:∀may,W.keptBut w' may:=λmay=>by have h:=xG.frame may;exact⟨h.1,h.2.1,h.2.2⟩
 have s0:=stays ak (fK ak) h0k qB;exact⟨_,_,_,[],_,[],hW',trodAll_mk1 (shut_bool Tryz.underlying4 _),trodAll_mk1 s0,rfl,fr _,λh=>gp⟩
theorem reads:(∀t∈Tryz.f3.params,Tryz.prog.readableRec t=true)/\∀t∈Tryz.f3.resultTypes,Tryz.prog.readableRec t=true/\t<Tryz.prog.types.size:=by
 have h1:(Tryz.f3.params.toList.all λt=>Tryz.prog.readableRec t)=true:=ak;have h2:(Tryz.f3.resultTypes.toList.all λt=>Tryz.prog.readableRec t&&decide (t<Tryz.prog.types.size))=true:=ak
 exact⟨λt ht=>jB.1 h1 t nS,λt ht=>by have:=jB.1 h2 t nS;simpa using this⟩
theorem calm(os:Os):Stop.quiet Tryz.prog os:=λk hk=>by have e:Tryz.prog.stopKnobs=[]:=ak;rw[e]at hk;cases hk
theorem over:Rows.DecodesUptoSaid:=by
 unfold Rows.DecodesUptoSaid OpenClaim.holds
 refine⟨ak,rfl,rfl,rfl,laidOut,ak,(show Tryz.prog.mayEnter=true by kernel_rfl),⟨rfl,rfl,rfl,rfl,rfl,rfl,rfl⟩,3,Tryz.f3,ak,Tryz.func3,reads,(λh=>gp),ak,
  fK ak,(by unfold Func.isWrapper;first|(rw[ax f_];kernel_rfl)|(rw[au f_];exact⟨rfl,rfl⟩)),
  by kernel_rfl,⟨ak,ak,ak⟩,ak,ak,ak,ak,ak,⟨ak,ak,ak⟩,⟨ak,ak⟩,⟨ak,ak,ak,ak⟩,⟨ak,ak,ak,ak⟩,ak,(λn hn=>by cases hn),⟨_,WideRow.started_initial,calm _⟩,[],rfl,?_⟩
 intro os st _ H enc _;rw[OpenClaim.post_not_still rfl,OpenClaim.pre_eq_preRow];intro F;exact lifted os st H enc F ak
theorem looksAt:∀f fn,Tryz.pinned.checked.prog.funcNamed Rows.decodesUptoRow.func=some f->Tryz.pinned.checked.prog.funcs[f]?=some fn->true=Tryz.pinned.checked.prog.looks []/\∀(j:Nat) t,fn.params[j]?=some t->Tryz.pinned.checked.prog.wantsStandIn t=false:=λf fn hf NY=>by
 obtain rfl:f=3:=gu ((show Tryz.prog.funcNamed "cairn/cairnlaw.Decodes" =some 3 by kernel_rfl).symm.trans hf)|>.symm;obtain rfl:fn=Tryz.f3:=(gu (Tryz.func3.symm.trans NY)).symm
 exact⟨ak,λj t ht=>by
  rw[Tryz.params3]at ht;have hm:t∈[22]:=by simpa using fJ ht
  have xg:([22].all λu=>!Tryz.prog.wantsStandIn u)=true:=ak;exact(show Tryz.prog.wantsStandIn t=false by simpa using jB.1 xg t hm)⟩
theorem proved:Rows.DecodesUptoCardSaid:=
 ⟨Claim7.tied_new_at .later [.data,.data,.data,.data,.handle,.sentinel] true (Claim7.new_of_sixth over Rows.decodesUptoCard.stood.harness true rfl ⟨rfl,rfl⟩ ak ak looksAt) ak,(λ_ h=>gp),decodesUpto_row_tie,(λh=>gp),ak⟩
