import Derived.Test.YtlghjjennhpjeaaGreatDoorHqK
import Derived.Test.YtlghjjennhpjeaaGreatDoorDeD
set_option maxHeartbeats 8000000
set_option maxRecDepth 100000
namespace Go.Lf
open Go.Extern Go.Extern.Rtype
section
variable {P:aP}{α:Type}
theorem MF(s:String):Plain P (cutType s):=by
 unfold cutType
 (repeat'(first|with_reducible(first|exact qm _|exact qp _|exact rH|(refine qo ?_ (λ_=>?_)))|split))
theorem yc(s:String):Plain P (panicString s:Sem α):=by
 unfold panicString
 (repeat'(with_reducible first|exact BM _|exact rH|(refine qo ?_ (λ_=>?_))))
theorem Ar(h:ai):Plain P (ofHandle h):=by
 unfold ofHandle
 (repeat'(first|with_reducible(first|exact qm _|exact qp _|exact rH|(refine qo ?_ (λ_=>?_)))|split))
theorem OB(t:aG):Plain P (handle t):=by
 unfold handle
 (repeat'(with_reducible first|exact qm _|exact rH|(refine qo ?_ (λ_=>?_))))
theorem Dv(s:String)(t:aG):Plain P (noPack s t):=by
 unfold noPack
 (repeat'(first|with_reducible exact qm _|((with_reducible refine rE ?_);exact trivial)|with_reducible(first|exact rH|(refine qo ?_ (λ_=>?_))|(refine qL ?_ ?_))))
theorem Qb(s:String)(t:aG):Plain P (noPackHeld s t):=by
 unfold noPackHeld
 (repeat'(first|with_reducible exact qm _|((with_reducible refine rE ?_);exact trivial)|with_reducible(first|exact rH|(refine qo ?_ (λ_=>?_))|(refine qL ?_ ?_))))
theorem OC(s:String)(t:aG):Plain P (noPackNamed s t):=by
 unfold noPackNamed
 (repeat'(first|with_reducible exact qm _|((with_reducible refine rE ?_);exact trivial)|with_reducible(first|exact rH|(refine qo ?_ (λ_=>?_))|(refine qL ?_ ?_))))
theorem zi(s:String)(t:aG):Plain P (noPackMethods s t):=by
 unfold noPackMethods
 (repeat'(first|with_reducible exact qm _|((with_reducible refine rE ?_);exact trivial)|with_reducible(first|exact rH|(refine qo ?_ (λ_=>?_))|(refine qL ?_ ?_))))
theorem Wi(t:aG):Plain P (typeStr t):=by
 unfold typeStr
 (repeat'(first|with_reducible exact qm _|((with_reducible refine rE ?_);exact trivial)|with_reducible(first|exact rD _|(refine qo ?_ (λ_=>?_))|(refine qL ?_ ?_))))
theorem QX(t:aG):Plain P (spelt t):=by
 unfold spelt
 (repeat'(with_reducible first|exact OC _ _|exact Wi _|(refine qo ?_ (λ_=>?_))))
theorem Dw(t:aG):Plain P (under t):=by
 unfold under
 (repeat'(first|with_reducible(first|exact qm _|exact rD _|(refine qo ?_ (λ_=>?_)))|split))
theorem Hl(t:aG):Plain P (kind t):=by
 unfold kind
 (repeat'(first|with_reducible(first|exact qm _|exact qp _|exact Dw _|(refine qo ?_ (λ_=>?_)))|split))
theorem Wj(t:aG):Plain P (hasName t):=by
 unfold hasName
 (repeat'(first|with_reducible(first|exact qm _|exact rD _|(refine qo ?_ (λ_=>?_)))|split))
theorem QY(t:aG):Plain P (elem? t):=by
 unfold elem?
 (repeat'(first|with_reducible(first|exact qm _|exact Dw _|(refine qo ?_ (λ_=>?_)))|split))
theorem Bl(t u:aG):Plain P (implements t u):=by
 unfold implements
 (repeat'(first|with_reducible(first|exact qm _|exact zi _ _|exact Dw _|exact rD _|(refine qo ?_ (λ_=>?_)))|split))
theorem Jw(t u:aG):Plain P (directlyAssignable t u):=by
 unfold directlyAssignable
 (repeat'(first|with_reducible(first|exact qm _|exact Wj _|exact Dw _|(refine qo ?_ (λ_=>?_))|(refine qL ?_ ?_))|split))
theorem Hm(t:aG):Plain P (ReflectliteType.toType t):=by
 unfold ReflectliteType.toType
 (repeat'(with_reducible first|exact qm _|exact MF _|exact OB _|(refine qo ?_ (λ_=>?_))))
theorem FV(v:ai):Plain P (ReflectliteType.ofRtype v):=by
 unfold ReflectliteType.ofRtype;cases v<;>first|exact qp _|skip
 rename_i a;rcases a with⟨_|⟨h,_|⟨b,l⟩⟩⟩
 case cons.nil=>exact qo (Ar h) λ_=>qo (Dv _ _) λ_=>qm _
 all_goals exact qp _
theorem Y5(vals:aH):Plain P (ReflectliteType.typeOf vals):=by
 unfold ReflectliteType.typeOf;rcases vals with⟨_|⟨a,_|⟨b,l⟩⟩⟩
 case cons.nil=>cases a<;>first|exact qp _|exact qm _|exact Hm _
 all_goals exact qp _
theorem MG{f:aG->Sem ai}(h:∀t,Plain P (f t))(vals:aH):Plain P (ReflectliteType.method f vals):=by
 unfold ReflectliteType.method;rcases vals with⟨_|⟨a,_|⟨b,l⟩⟩⟩
 case cons.nil=>exact qo (FV a) λ_=>h _
 all_goals exact qp _
theorem aaL(t:aG):Plain P (ReflectliteType.elem t):=by
 unfold ReflectliteType.elem
 (repeat'(first|with_reducible(first|exact QY _|exact Hm _|exact QX _|exact yc _|(refine qo ?_ (λ_=>?_)))|split))
theorem Jy{s:String}{f:aG->aG->Sem Bool}(h:∀t u,Plain P (f t u))(vals:aH):Plain P (ReflectliteType.relation s f vals):=by
 unfold ReflectliteType.relation;rcases vals with⟨_|⟨a,_|⟨b,_|⟨c,l⟩⟩⟩⟩
 case cons.cons.nil=>cases b<;>first|exact qp _|exact yc _|exact qo (FV _) λ_=>qo (FV _) λ_=>qo (h _ _) λ_=>qm _
 all_goals exact qp _
theorem OD(t u:aG):Plain P (ReflectliteType.implements_ t u):=by
 unfold ReflectliteType.implements_
 (repeat'(with_reducible first|exact Hl _|exact yc _|exact zi _ _|exact Dv _ _|exact Bl _ _|(refine qo ?_ (λ_=>?_))|(refine qL ?_ ?_)))
theorem Nr(t u:aG):Plain P (ReflectliteType.assignableTo t u):=by
 unfold ReflectliteType.assignableTo
 (repeat'(with_reducible first|exact qm _|exact zi _ _|exact Jw _ _|exact Bl _ _|(refine qo ?_ (λ_=>?_))|(refine qL ?_ ?_)))
theorem Sm{f:aG->Sem ai}(h:∀t,Plain P (f t))(vals:aH):Plain P (ReflectliteType.abiMethod f vals):=by
 unfold ReflectliteType.abiMethod;rcases vals with⟨_|⟨a,_|⟨b,l⟩⟩⟩
 case cons.nil=>exact qo (Ar a) λ_=>qo (Dv _ _) λ_=>h _
 all_goals exact qp _
theorem Xt(t:aG)(a:Addr)(n:Nat):Plain P (ReflectliteValue.mk t a n):=by
 unfold ReflectliteValue.mk
 (repeat'(with_reducible first|exact qm _|exact OB _|exact Hl _|(refine qo ?_ (λ_=>?_))))
theorem OE(v:ai):Plain P (ReflectliteValue.unpack v):=by
 unfold ReflectliteValue.unpack
 (repeat'(first|with_reducible(first|exact qm _|exact qp _|exact Xt _ _ _|exact Au _ _|(refine qo ?_ (λ_=>?_)))|split))
theorem wZ(s:String)(k:Nat):Plain P (ReflectliteValue.valueError s k:Sem α):=by
 unfold ReflectliteValue.valueError
 (repeat'(with_reducible first|exact BM _|exact MF _|exact OG _|exact Au _ _|(refine qo ?_ (λ_=>?_))))
theorem Jz(v:ai):Plain P (ReflectliteValue.partsAny v):=by
 unfold ReflectliteValue.partsAny;cases v<;>first|exact qp _|skip
 rename_i a;rcases a with⟨_|⟨x,_|⟨y,_|⟨z,_|⟨u,l⟩⟩⟩⟩⟩
 case cons.cons.cons.nil=>
  cases z<;>first|exact qp _|skip
  rename_i k n;cases k<;>first|exact qp _|skip
  rcases n with(_|m)|m
  .exact qm _
  .cases y<;>first|exact qp _|skip
   rename_i q;cases q with
   |none=>exact qp _
   |some ad=>exact qo (Ar x) λ_=>qm _
  .cases y<;>first|exact qp _|skip
   rename_i q;cases q with
   |none=>exact qp _
   |some ad=>exact qo (Ar x) λ_=>qm _
 all_goals exact qp _
theorem JA(v:ai):Plain P (ReflectliteValue.parts v):=by
 unfold ReflectliteValue.parts
 (repeat'(first|with_reducible(first|exact qm _|exact Jz _|exact Dv _ _|(refine qo ?_ (λ_=>?_)))|split))
theorem FW{z:Sem ai}{f:aG->Addr->Nat->Nat->Sem ai}(hz:Plain P z)(h:∀t a n m,Plain P (f t a n m))(vals:aH):Plain P (ReflectliteValue.method z f vals):=by
 unfold ReflectliteValue.method;rcases vals with⟨_|⟨a,_|⟨b,l⟩⟩⟩
 case cons.nil=>
  refine qo (JA a) λr=>?_
  cases r with
  |none=>exact hz
  |some x=>exact h _ _ _ _
 all_goals exact qp _
theorem Sr{z:Sem ai}{f:aG->Addr->Nat->Nat->Sem ai}(hz:Plain P z)(h:∀t a n m,Plain P (f t a n m))(vals:aH):Plain P (ReflectliteValue.methodAny z f vals):=by
 unfold ReflectliteValue.methodAny;rcases vals with⟨_|⟨a,_|⟨b,l⟩⟩⟩
 case cons.nil=>
  refine qo (Jz a) λr=>?_
  cases r with
  |none=>exact hz
  |some x=>exact h _ _ _ _
 all_goals exact qp _
theorem aaM(t:aG)(a:Addr)(n k:Nat):Plain P (ReflectliteValue.isNil t a n k):=by
 unfold ReflectliteValue.isNil
 (repeat'(first|with_reducible(first|exact qm _|exact wZ _ _|exact wO _ _|(refine qo ?_ (λ_=>?_))|(refine qL ?_ ?_))|split))
theorem aaN(t:aG)(a:Addr)(n k:Nat):Plain P (ReflectliteValue.elem t a n k):=by
 unfold ReflectliteValue.elem
 (repeat'(first|with_reducible(first|exact qm _|exact wZ _ _|exact wO _ _|exact QY _|exact OE _|exact Xt _ _ _|(refine qo ?_ (λ_=>?_))|(refine qL ?_ ?_))|split))
theorem ac1(vals:aH):Plain P (ReflectliteValue.set vals):=by
 unfold ReflectliteValue.set;rcases vals with⟨_|⟨a,_|⟨b,_|⟨c,l⟩⟩⟩⟩
 case cons.cons.nil=>
  refine qo (JA a) λp=>qo (JA b) λq=>?_
  (repeat'(first|with_reducible exact qm _|((with_reducible refine rE ?_);exact trivial)|with_reducible(first|exact wO _ _|exact Jw _ _|exact Ef _ _ _|exact Bl _ _|exact Hl _|exact QX _|exact yc _|(refine qo ?_ (λ_=>?_))|(refine qL ?_ ?_))|split))
 all_goals exact qp _
end
end Go.Lf
namespace Go.Proofs.Y
open Go.Proofs.Tryz
open Go.Lf Go.Extern
def aix(f:aU):Y6:=if f==132 then[5,9,17,19,21,23,35,37,67,85].map λj=>(j,140,1)else[]
def aiy:List aU:=[50,9,19,20,21,11,41,42,43,44,116,135,134,24,27,66,68,138,49,59,88,89,90,118,119,120,121,122,130,131,132,140,133,136,139,141,142,143,144,145,146,147,148,149,150,151,152,153,154,155,156,157,176,178]
def alH:List aU:=[67,56,57,58,85,86,171,172,180,183,184,185,186]
attribute [local irreducible] Plain
theorem Bo{P:aP}{f:aU}{fn:Func}(e:aH->Sem ai)(h1:P.funcs[f]?=some fn)(h2:(fn.name== "runtime.NumGoroutine")=false)(h3:fn.body=none)(h4:Extern.findNext fn=none)(h5:Extern.find fn=some e)(h6:∀xs,Plain P (e xs)):OH P f:=
 ⟨fn,h1,h2,h3,h4,λe' he xs=>by rw[h5]at he;cases he;exact qE.of (h6 xs)⟩
theorem aon{P:aP}{f:aU}{fn:Func}(h1:P.funcs[f]?=some fn)(h2:(fn.name== "runtime.NumGoroutine")=false)(h3:fn.body=none)(h4:Extern.findNext fn=none)(h5:Extern.find fn=none):OH P f:=
 ⟨fn,h1,h2,h3,h4,λe' he xs=>by rw[h5]at he;cases he⟩
theorem aqi:∀f∈alH,OH prog f:=by
 intro f hf;simp only[alH,dK,nG,mX]at hf;rcases hf with rfl|rfl|rfl|rfl|rfl|rfl|rfl|rfl|rfl|rfl|rfl|rfl|rfl
 .exact Bo ReflectliteType.typeOf func67 ak ak ak ak (Y5)
 .exact Bo (λargs=>ReflectliteValue.unpack (args.getD 0 (.tuple #[]))) func56 ak ak ak ak (λ_=>OE _)
 .exact Bo (ReflectliteValue.methodAny (ReflectliteValue.valueError "reflectlite.Value.Type" 0) λt _ _ _=>ReflectliteType.toType t) func57 ak ak ak ak (Sr (wZ _ _) λ_ _ _ _=>Hm _)
 .exact Bo (ReflectliteValue.method (ReflectliteValue.valueError "reflectlite.Value.IsNil" 0) ReflectliteValue.isNil) func58 ak ak ak ak (FW (wZ _ _) aaM)
 .exact Bo (ReflectliteValue.method (ReflectliteValue.valueError "reflectlite.Value.Elem" 0) ReflectliteValue.elem) func85 ak ak ak ak (FW (wZ _ _) aaN)
 .exact Bo ReflectliteValue.set func86 ak ak ak ak (ac1)
 .exact aon func171 ak ak ak ak
 .exact Bo (ReflectliteType.abiMethod λt=>do pure (.int .u8 (<-Rtype.kind t))) func172 ak ak ak ak (Sm λ_=>qo (Hl _) λ_=>qm _)
 .exact Bo (ReflectliteValue.method (pure (.int .u8 0)) λ_ _ _ k=>pure (.int .u8 (Int.ofNat k))) func180 ak ak ak ak (FW (qm _) λ_ _ _ _=>qm _)
 .exact Bo (ReflectliteType.relation "AssignableTo" ReflectliteType.assignableTo) func183 ak ak ak ak (Jy Nr)
 .exact Bo (ReflectliteType.method λt=>do Rtype.noPackHeld "Comparable" t;pure (.bool (<-typeInfo t).comparable)) func184 ak ak ak ak (MG λ_=>qo (Qb _ _) λ_=>qo (rD _) λ_=>qm _)
 .exact Bo (ReflectliteType.method ReflectliteType.elem) func185 ak ak ak ak (MG aaL)
 .exact Bo (ReflectliteType.relation "Implements" ReflectliteType.implements_) func186 ak ak ak ak (Jy OD)
end Go.Proofs.Y
namespace Go.Lf
open Go.Extern
attribute [local irreducible] Plain
theorem Qc{P:aP}(ps rs:Array aG)(vals:aH):Plain P (BytealgMakeNoZero.makeNoZero ps rs vals):=by
 unfold BytealgMakeNoZero.makeNoZero;rcases vals with⟨_|⟨a,_|⟨b,l⟩⟩⟩
 case cons.nil=>
  cases a with
  |int k n=>
   cases k
   case i64=>
    cases h:rs[0]? with
    |none=>exact qp _
    |some t=>
     refine qo (qy _) λd=>?_
     cases d<;>(repeat'(first|with_reducible assumption|with_reducible exact qm _|with_reducible exact aaO _|with_reducible exact qp _|((with_reducible refine rE ?_);exact trivial)|with_reducible exact BM _|with_reducible exact Ns _|with_reducible exact QZ _ _|with_reducible exact OI _|with_reducible exact u_ _|with_reducible exact rH|with_reducible exact Nu _|with_reducible exact K_ trivial|with_reducible exact qW _|with_reducible exact Aw _ _|((with_reducible refine Ho ?_ ?_);(focus(exact Nv (λ_ _ _=>rfl) (λ_ _=>rfl)));(intro _))|with_reducible(refine qo ?_ (λ_=>?_))|with_reducible(refine Qd ?_)|with_reducible(refine qL ?_ ?_)|split|(dsimp only)))
   all_goals(cases h:rs[0]?<;>exact qp _)
  |_=>cases h:rs[0]?<;>exact qp _
 all_goals(cases h:rs[0]?<;>exact qp _)
end Go.Lf
namespace Go.Proofs.Y
open Go.Proofs.Tryz
open Go.Lf Go.Extern
def aiz:List aU:=[22,23,48,26,45,46,47,69,70,91,92,71,72,51,54,55,6,12,28,29,30,31,33,34,60,61,13,35,14,15,37,17,8]
def zk:List aU:=[73]
def aiA(f:aU):Bool:=aiy.contains f||aaP.contains f||aiz.contains f||alH.contains f||zk.contains f
noncomputable def aaQ(f:aU):Bool:=match prog.funcs[f]? with
 |none=>false
 |some fn=>!(fn.name== "runtime.NumGoroutine")&&match fn.body with
  |none=>false
  |some c=>uz prog aiA (aix f) c&&(aix f).all λx=>decide (arity prog f<=x.1)
theorem alI:(aiy++aaP++aiz).all aaQ=true:=ak
theorem aqj:OH prog 73:=
 Bo (BytealgMakeNoZero.makeNoZero Tryz.f73.params Tryz.f73.resultTypes) func73 ak ak ak ak (Qc _ _)
theorem rC:x9 prog aiA:=by
 intro f hf
 have hf':(aiy++aaP++aiz).contains f=true\/alH.contains f=true\/zk.contains f=true:=by
  simp only[aiA,lZ]at hf;simp only[List.contains_eq_mem,kK,iG]at hf⊢;rcases hf with(((h|h)|h)|h)|h
  .exact .inl (.inl (.inl h))
  .exact .inl (.inl (.inr h))
  .exact .inl (.inr h)
  .exact axk
  .exact .inr (.inr h)
 rcases hf' with hf|hf|hf
 .left
  have h:=jB.1 alI f (by simpa using hf);unfold aaQ at h;split at h
  .cases h
  .rename_i fn NY;rw[fU]at h;obtain⟨h1,h2⟩:=h;split at h2
   .cases h2
   .rename_i c hc;rw[fU]at h2;exact⟨fn,c,aix f,NY,iD,hc,h2.1,λx hx=>by simpa using jB.1 h2.2 x hx⟩
 .right
  exact aqi f (by simpa using hf)
 .right
  obtain rfl:f=73:=by simpa[zk]using hf
  exact aqj
end Go.Proofs.Y
namespace Go.Lf
open Go.Conc
section
variable {P:aP}{F:aU->Bool}{X:Nat->Prop}{Y:Nat->aZ}{D:Nat->ah->aN->Prop}{Stop:aI->ah->Prop}{f:aU}{cs:aT}{T:aH}{v:ah}
theorem Gv(hF:x9 P F)(hD:zN X D){c:Code}(hc:Hq P F c=true){fn:Func}(hf:P.funcs[f]?=some fn){R:ai->ah->Prop}{c0:aS}
  (h:∀τ d,c.wp P (bodyPost P fn λe v'=>∃y,e=.returned y/\R y v') ⟨T,[]⟩ {v with tape:=τ,drawn:=d})
  (hK:∀y v',R y v'->∀w',rG X Y w' v'->sU P D Stop (G (c0.finish y) cs) w'):uN P X Y D Stop f (c0::cs) [.code c] ⟨T,[]⟩ v:=by
 intro w hs;refine ap_ (f:=(base f).at ⟨T,[]⟩ [.code c]) (Q:=λfr v'=>∃y,R y v'/\fr.defers=[]/\fr.kind=.normal/\∃fn,P.funcs[fr.fn]?=some fn/\(results fn fr.tmps).run P v'=.ok y v') hF hD ⟨⟨fn,hf⟩,rfl,rfl,rfl,[],λx hx=>avg,Gw.nil⟩ rfl (λτ d'=>?_) hs (λfz v' w' hT hzm hQ xk=>?_)
 .obtain⟨e,a',v',hq,ahy⟩:=h τ d' (base f) [] [f0];cases e with
  |normal=>
   obtain⟨hd,y,hr,z,hz,hR⟩:=hq;cases hz;obtain⟨n,hn⟩:Steps P (lone ((base f).at ⟨T,[]⟩ [.code c]) [f0] {v with tape:=τ,drawn:=d'}) (lone {(base f).at a' []with mode:=.returning} [f0] v'):=Steps.trans ahy (.one step_end);exact⟨n,_,v',hn,rfl,y,hR,hd,rfl,fn,hf,hr⟩
  |ret=>
   obtain⟨hd,y,hr,z,hz,hR⟩:=hq;cases hz;obtain⟨todo,uw⟩:=ahy;obtain⟨n,hn⟩:Steps P (lone ((base f).at ⟨T,[]⟩ [.code c]) [f0] {v with tape:=τ,drawn:=d'}) (lone {(base f).at a' todo with mode:=.returning} [f0] v'):=uw;exact⟨n,_,v',hn,rfl,y,hR,hd,rfl,fn,hf,hr⟩
  |panic chain=>
   obtain⟨_,y,hy,_⟩:=hq;cases hy
  |exit id=>exact hq.elim
  |goto l=>exact hq.elim
  |outgrown=>
   obtain⟨y,hy,_⟩:=hq;cases hy
 .obtain⟨y,hR,hd,hk,fn,hf,hr⟩:=hQ;refine .next rfl λd=>?_
  obtain⟨τ0,d0,Ti⟩:=xk
  have B_:yg X Y (w'.at d) {v' with tape:=λp=>w'.tape (d+(p-v'.drawn))}:=rG.re ⟨τ0,d0,Ti⟩ d v'.drawn _ λi q=>by exact ayO
  obtain⟨_,_,ht3⟩:=wG (results fn fz.tmps) v' #[] y v' ((results fn fz.tmps).events P v' #[]) (wM fn fz.tmps) Ti.nv aup;have hr2:=ht3 (λp=>w'.tape (d+(p-v'.drawn))) (λp h1 h2=>absurd h2 ag);obtain⟨w3,h1,h2,h3,h4⟩:=vP (results fn fz.tmps) (w'.at d) _ #[] y _ _ (wM fn fz.tmps) B_ hr2;refine⟨G (c0.finish y) cs,w3,seen P fz.fn ((results fn fz.tmps).events P v' #[]),?_,hD _ _ _ (fA (B_.size.trans h2.size.symm)) (λe he=>(h4 e (mem_seen he)).resolve_left aA),hK y v' hR w3 ⟨_,_,h2⟩⟩;obtain⟨fnx,tmps,todo,defers,mode,kind,round⟩:=fz;dsimp only at hzm hd hk hf hr h1 h4;subst hzm hd hk;show stepG P true _ (w'.at d)=_;simp only[G,stepG,unwind,hf,h1,doReturn,GStep.after];rfl
end
end Go.Lf
namespace Go.Proofs.Y
open Go.Proofs.Tryz
open Go.RowKit Go.Deep Go.Lf Go.Conc Go.Hp
theorem xn{w w':ah}(h:tX w.heap.size w w'):Sub w w':=⟨h.uo,λ_ _ _ _ hb=>(h.blk (eG.1 hb).1).trans hb⟩
theorem Sub.trans{a b c:ah}(h:Sub a b)(h':Sub b c):Sub a c:=⟨bF h.1 h'.1,λx y t fr hx=>h'.2 x y t fr (h.2 x y t fr hx)⟩
structure Gl(a:Addr)(w:ah):Prop where
 tab:LQ w
 pow:Pow w
 big:5<=w.heap.size
 early:wU w a
 aoo:CY w
theorem Gl.sub{a:Addr}{w w':ah}(h:Gl a w)(hs:Sub w w'):Gl a w':=by
 refine⟨hs.tab h.tab,?_,bF h.big hs.1,hs.cell h.early,hs.cell h.aoo⟩;have hp:=h.pow;unfold Pow Lib.TabIs World.var? at hp⊢;cases hg:prog.globalNamed "internal/strconv.uint64pow10" with
 |none=>rw[hg]at hp;cases hp
 |some g=>
  rw[hg]at hp;simp only[gX]at hp⊢;split at hp
  .rename_i cs t fr hc;rw[hs.2 _ _ _ _ hc];exact hp
  .cases hp
section
variable {w:ah}
end
noncomputable def xQ:Code:=Tryz.f25.body.getD .skip
noncomputable def do8:Code:=rX (rX (rX (rX xQ)))
noncomputable def do9:Code:=rX do8
noncomputable def ac2:Code:=rX do9
theorem af7:xQ=.seq (sZ xQ) (.seq (sZ (rX xQ)) (.seq (sZ (rX (rX xQ))) (.seq (sZ (rX (rX (rX xQ)))) do8))):=ak
noncomputable def qd8:{y:Array Oper//y=zt (sZ do8)}:=⟨_,by(simp only[do8,xQ,sZ,rX,zt,Tryz.f25,bf];rfl)⟩
noncomputable def dO8:Array Oper:=qd8.1
theorem aop:do8=.seq (.region 8 dO8 false) do9:=ak
theorem aiB:dO8.size=7:=ak
noncomputable def qd9:{y:Array Oper//y=zt (sZ do9)}:=⟨_,by(simp only[do9,do8,xQ,sZ,rX,zt,Tryz.f25,bf];rfl)⟩
noncomputable def dO9:Array Oper:=qd9.1
theorem aoq:do9=.seq (.region 9 dO9 false) ac2:=ak
theorem aiC:dO9.size=5:=ak
theorem alJ:∃fn,prog.funcs[25]?=some fn:=⟨_,func25⟩
def Td(f:Nat->ai)(a0 a4 a5 a6 a7 a10 a11:ai):aH:=#[a0,f 1,f 2,f 3,a4,a5,a6,a7,f 8,f 9,a10,a11,f 12,f 13,f 14,f 15,f 16,f 17,f 18,f 19,f 20,f 21,f 22,f 23,f 24,f 25,f 26,f 27,f 28,f 29,f 30,f 31,f 32,f 33,f 34,f 35,f 36,f 37,f 38,f 39,f 40,f 41,f 42,f 43,f 44,f 45,f 46,f 47,f 48,f 49,f 50,f 51,f 52,f 53,f 54,f 55,f 56,f 57,f 58,f 59,f 60,f 61,f 62,f 63,f 64,f 65,f 66,f 67,f 68,f 69,f 70,f 71,f 72,f 73,f 74,f 75]
abbrev tdO(T:aH):aH:=Td (λi=>T.getD i undef) (T.getD 0 undef) (T.getD 4 undef) (T.getD 5 undef) (T.getD 6 undef) (T.getD 7 undef) (T.getD 10 undef) (T.getD 11 undef)
theorem Xu{T:aH}(h:T=tdO T):T=tdO T:=h
def TD1(vs:ai)(K N tt M bc:Nat)(T:aH):Prop:=∃f:Nat->ai,T=Td f vs (.int .i64 (K:Int)) (.int .i64 (N:Int)) (.int .i64 (tt:Int)) (.slice (some ⟨bc,0,none⟩) M M) (f 10) (f 11)
def TD2(vs:ai)(K N tt M bc:Nat)(vd:ai)(T:aH):Prop:=∃f:Nat->ai,T=Td f vs (.int .i64 (K:Int)) (.int .i64 (N:Int)) (.int .i64 (tt:Int)) (.slice (some ⟨bc,0,none⟩) M M) vd (f 11)
def TD3(vs:ai)(K N tt M bc:Nat)(vd va:ai)(T:aH):Prop:=∃f:Nat->ai,T=Td f vs (.int .i64 (K:Int)) (.int .i64 (N:Int)) (.int .i64 (tt:Int)) (.slice (some ⟨bc,0,none⟩) M M) vd va
noncomputable def frD(T:aH):aS:=(base 25).at ⟨T,[]⟩ (.inRegion dO8 [2,3,4,5,6]::[.code do9])
noncomputable def frF(T:aH):aS:=(base 25).at ⟨T,[]⟩ (.inRegion dO9 [3,4]::[.code ac2])
structure DsH(K N L tt M:Nat)(sh:Nat->vZ):Prop where
 k1:1<=K
 kn:K<=N
 n1:N<=128
 kM:K<=M
 hM:M<=128
 sk:(sh 0).k=K
 sn:(sh 0).n=N
 st:(sh 0).sizes.sum=tt
 t1:tt<=65536
 hl:L=rO K tt
 len:∀i,i<M->(sh i).qC.length=L
 ix:∀i,i<M->(sh i).i<N
 inj:∀i j,i<M->j<M->i≠j->(sh i).i≠(sh j).i
def crF(sh:Nat->vZ)(vC:Nat->ai)(p:Nat):ai:=if p%2=0 then .int .i64 (((sh (p/2)).i:Nat):Int)else vC (p/2)
def CR(bc M j:Nat)(sh:Nat->vZ)(vC:Nat->ai)(w:ah):Prop:=w.rowIs bc 55 (M*2) (λp=>if p/2<j then crF sh vC p else(if p%2=0 then .int .i64 0 else .slice none 0 0))
theorem CR.start(M:Nat)(sh:Nat->vZ)(vC:Nat->ai)(w:ah):CR w.heap.size M 0 sh vC (w.alloc (.cells (madeCells #[.int .i64 0,.slice none 0 0] (M*2)) 55)):=by
 have:=World.rowIs_alloc w (madeCells #[.int .i64 0,.slice none 0 0] (M*2)) 55 (λp=>if p/2<0 then crF sh vC p else(if p%2=0 then .int .i64 0 else .slice none 0 0)) (λi hi=>by rw[jw]at hi;rw[au ag];rcases avW i with e|e<;>simp[madeCells,hi,e])
 rw[jw]at this;exact this
theorem CR.more{bc M j:Nat}{sh:Nat->vZ}{vC:Nat->ai}{w w2:ah}(h:CR bc M j sh vC w)(hj:j<M)(hg:bc<w.heap.size)(hb:Below w.heap.size w w2):
  CR bc M (j+1) sh vC ((w2.setCell ⟨bc,j*2,none⟩ (.int .i64 (((sh j).i:Nat):Int))).setCell ⟨bc,j*2+1,none⟩ (vC j))/\(∃u,w2.cell? ⟨bc,j*2,none⟩=some u)/\w2.frozen? ⟨bc,j*2,none⟩=false/\(∃u,(w2.setCell ⟨bc,j*2,none⟩ (.int .i64 (((sh j).i:Nat):Int))).cell? ⟨bc,j*2+1,none⟩=some u)/\(w2.setCell ⟨bc,j*2,none⟩ (.int .i64 (((sh j).i:Nat):Int))).frozen? ⟨bc,j*2+1,none⟩=false:=by
 have r:w2.rowIs bc _ _ _:=World.rowIs.of_block h (hb.block bc hg);have r1:=r.set (j*2) (.int .i64 (((sh j).i:Nat):Int));have r2:=r1.set (j*2+1) (vC j);refine⟨r2.congr λp hp=>?_,⟨_,r.cell (i:=j*2) ag⟩,r.frozen _,⟨_,r1.cell (i:=j*2+1) ag⟩,r1.frozen _⟩;by_cases e1:p=j*2+1
 .subst e1;rw[ax rfl,ax ag,crF,au ag,show(j*2+1)/2=j by omega]
 .rw[au e1];by_cases e2:p=j*2
  .subst e2;rw[ax rfl,ax ag,crF,ax ag,show j*2/2=j by omega]
  .rw[au e2];by_cases e3:p/2<j
   .simp only[e3,show p/2<j+1 by omega,aY]
   .simp only[e3,show¬p/2<j+1 by omega,bU]
theorem aiD(l:aC):Jp (l.map Int.ofNat)=uH l:=by simp[Jp,uH]
theorem Tn(l:aC):Nb (l.map Int.ofNat)=l.sum:=by unfold Nb;rw[kV,show(Int.toNat∘Int.ofNat)=id from rfl,List.map_id]
theorem OJ{w w':ah}{v:ai}{xs:aK}(hb:tX w.heap.size w w')(h:qP w v xs):qP w' v xs:=qP.below (w:={w with tape:=w'.tape}) h hb
theorem Tq.xG{w w':ah}{bo:aW}{n:Nat}{sh:Nat->vZ}{vN vS vC:Nat->ai}(h:Tq w bo n sh vN vS vC)(hb:tX w.heap.size w w'):Tq w' bo n sh vN vS vC:=
 ⟨λhn=>by
  obtain⟨b,o,e,hl,hc⟩:=h.cells hn;exact⟨b,o,e,bH hl hb.uo,λi hi j v hv=>(Below.cell (p:=(⟨b,o+i*7+j,none⟩:Addr)) hb hl).trans (hc i hi j v hv)⟩,
  λi hi=>⟨(OJ hb (h.nm i hi).1),(h.nm i hi).2⟩,λi hi=>⟨(OJ hb (h.sz i hi).1),(h.sz i hi).2⟩,λi hi=>OJ hb (h.cl i hi),h.kn⟩
section
variable {X:Nat->Prop}{Y:Nat->aZ}{D:Nat->ah->aN->Prop}{Stop:aI->ah->Prop}{w:ah}{cs:aT}{K N L tt M cap:Nat}{bo:aW}{sh:Nat->vZ}{vN vS vC:Nat->ai}
theorem aor(uk:zN X D)(hH:DsH K N L tt M sh)(hS:Tq w bo M sh vN vS vC)
  (qZ:∀(T:aH)(bc:Nat)(w':ah),TD1 (.slice bo M cap) K N tt M bc T->CR bc M M sh vC w'->tX w.heap.size w w'->w.heap.size<=bc->
   uN prog X Y D Stop 25 cs [.code do8] ⟨T,[]⟩ w'):
  uN prog X Y D Stop 25 cs [.code xQ] ⟨#[.slice bo M cap]++Array.replicate 75 undef,[]⟩ w:=by
 obtain⟨k1,kn,n1,kM,hM,sk,sn,st,t1,hl,len,VX,inj⟩:=hH;rw[af7];simp only[eU,eQ,eH,eP,dw,df];refine rV rC uk ak rfl alJ λR hR τ d'=>?_
 have bl:tX w.heap.size w {w with tape:=τ,drawn:=d'}:=(tX.refl _ w).tp τ d';generalize({w with tape:=τ,drawn:=d'}:ah)=wA at bl⊢;simp only[sZ,xQ,Tryz.f25,bf];go_wp2;refine rV rC uk ak rfl alJ λR hR τ d'=>?_
 replace bl:=bl.tp τ d';generalize({wA with tape:=τ,drawn:=d'}:ah)=wB at bl⊢;simp only[sZ,rX,xQ,Tryz.f25,bf];have Hr:=hS.xG bl;have h0n:(0:Int)<(M:Int):=ag;obtain⟨b,o,rfl,Jf,hcell⟩:=Hr.cells ag;have r0:=hcell 0 ag;unfold Me at r0;obtain⟨q0,q1,q2,q3,q4,q5,q6⟩:=Eg r0;simp only[fO,fF]at q0 q1 q2 q3 q4 q5 q6;have kt:=λm=>ac3 (vS 0) ((sh 0).sizes.map Int.ofNat) (by have:=(Hr.sz 0 ag).2;simp;omega) (λi hi=>by simp;cases (sh 0).sizes[i]?<;>simp) (by rw[Tn,st];exact t1) (wB.drewN m) (by rw[aiD];exact((Hr.sz 0 ag).1.drewN m))
 rw[Tn,st]at kt;rw[sk]at q0;rw[sn]at q1;have kT:∀nq,Calls prog 50 #[vS 0] (wB.drewN nq) λr w'=>r=.returned (.int .i64 (tt:Int))/\w'=wB.drewN nq:=kt
 clear kt q2 q3 q4 q6 r0 hcell
 go_quiet ((go_at_call 50;exact Calls.quiet_of_same (kT _)))
 clear kT q0 q1 q5;go_wp2;refine rV rC uk ak rfl alJ λR hR τ d'=>?_
 have bl2:tX w.heap.size w ({wB.drewN nq with tape:=τ,drawn:=d'}:ah):=tX.tp (bl.trans (tX.of (below_drewN (aO _ _) nq)) bl.uo) τ d';generalize({wB.drewN nq with tape:=τ,drawn:=d'}:ah)=wC at bl2⊢;simp only[sZ,rX,xQ,Tryz.f25,bf];have mk:=Xv M hM wC;have C0:=CR.start M sh vC wC;have b0:Below wC.heap.size wC (wC.alloc (.cells (madeCells #[.int .i64 0,.slice none 0 0] (M*2)) 55)):=(aO _ _).alloc (ay _) _;go_wp2;clear mk;have bl3:tX w.heap.size w (wC.alloc (.cells (madeCells #[.int .i64 0,.slice none 0 0] (M*2)) 55)):=bl2.trans (tX.of b0) bl2.uo;have qB:wC.heap.size<(wC.alloc (.cells (madeCells #[.int .i64 0,.slice none 0 0] (M*2)) 55)).heap.size:=aA;have hwb:=bl2.uo;generalize wC.alloc (.cells (madeCells #[.int .i64 0,.slice none 0 0] (M*2)) 55)=wD at C0 bl3 qB⊢;generalize wC.heap.size=bc at*;clear b0 bl2 bl Jf Hr;refine rV rC uk ak rfl alJ λR hR τ d'=>?_
 replace bl3:=bl3.tp τ d';replace C0:CR bc M 0 sh vC ({wD with tape:=τ,drawn:=d'}:ah):=C0;replace qB:bc<({wD with tape:=τ,drawn:=d'}:ah).heap.size:=qB;generalize({wD with tape:=τ,drawn:=d'}:ah)=wE at bl3 C0 qB⊢;have Hs:=hS.xG bl3;obtain⟨b',o',e',Jf,hcell⟩:=Hs.cells ag;cases e';simp only[sZ,rX,xQ,Tryz.f25,bf];go_wp2
 go_loopw [8,9,32] (λ_ _ vi wr=>∃j:Nat,j<=M/\vi=.int .i64 (j:Int)/\tX w.heap.size w wr/\CR bc M j sh vC wr/\bc<wr.heap.size) (λ_ _ vi _=>M-(intOf vi).toNat)
 case atStart=>exact⟨0,ag,rfl,bl3,C0,qB⟩
 case round=>
  clear C0 qB bl3 hcell Jf Hs;obtain⟨j,hj,rfl,blr,Cj,qB⟩:=hrel;by_cases hjm:j<M
  .have atC:(j:Int)<(M:Int):=ag;have Hr:=hS.xG blr;obtain⟨b',o',e',Jf,hcell⟩:=Hr.cells ag;cases e';have rj:=hcell j hjm;have tN:=wH _ (Hr.nm j hjm).1.one;have tS:=wH _ (Hr.sz j hjm).1.one;have tC:=wH _ (Hr.cl j hjm).one;unfold Me at rj;obtain⟨p0,p1,p2,p3,p4,p5,p6⟩:=Eg rj;obtain⟨C2,⟨u1,d1⟩,d2,-,-⟩:=Cj.more hjm qB (aO _ _);have d3:=World.rowIs.cell Cj (i:=j*2+1) ag;have d4:=World.rowIs.frozen Cj (j*2+1);have cn:=DR wr (Me (sh j) (vN j) (vS j) (vC j)) 41;have c2:=cn 2;have c6:=cn 6;simp only[Me,jg,jh]at c2 c6;obtain⟨bq,cq,ev⟩:=(Hr.cl j hjm).len;clear cn rj hcell Cj Hr;generalize hvj:vC j=vj at*;subst ev;generalize(rP (sh j).qC).length=nq' at*;have b3:tX w.heap.size w ((wr.setCell ⟨bc,j*2,none⟩ (.int .i64 (((sh j).i:Nat):Int))).setCell ⟨bc,j*2+1,none⟩ (.slice bq nq' cq)):=(Below.setCell (Below.setCell blr (p:=⟨bc,j*2,none⟩) hwb _) (p:=⟨bc,j*2+1,none⟩) hwb _);have vV:bc<((wr.setCell ⟨bc,j*2,none⟩ (.int .i64 (((sh j).i:Nat):Int))).setCell ⟨bc,j*2+1,none⟩ (.slice bq nq' cq)).heap.size:=by simp;exact qB
   go_wp2;generalize(wr.setCell ⟨bc,j*2,none⟩ (.int .i64 (((sh j).i:Nat):Int))).setCell ⟨bc,j*2+1,none⟩ (.slice bq nq' cq)=w3 at*;have b4:∀o:Obj,Below w3.heap.size w3 (w3.alloc o):=λo=>(aO _ _).alloc (ay _) o
   exact⟨⟨j+1,ag,aA,b3.trans (tX.of (b4 _)) b3.uo,World.rowIs.of_block C2 ((b4 _).block bc vV),bH vV (b4 _).size⟩,jV⟩
  .obtain rfl:j=M:=ag;have E5:¬((j:Int)<(j:Int)):=ag;go_wp2;exact qZ _ bc wr ⟨_,Xu rfl⟩ Cj blr hwb
end
section
variable {X:Nat->Prop}{Y:Nat->aZ}{D:Nat->ah->aN->Prop}{Stop:aI->ah->Prop}{w:ah}{cs:aT}{K N L tt M bc:Nat}{vs:ai}{T:aH}
theorem alK(uk:zN X D)(hT:TD1 vs K N tt M bc T)
  (qZ:∀T',TD1 vs K N tt M bc T'->uN prog X Y D Stop 52 (frD T'::cs) [.code Jt] ⟨#[.int .i64 (K:Int),.slice (some ⟨bc,0,none⟩) M M]++Array.replicate 67 undef,[]⟩ w):
  uN prog X Y D Stop 25 cs [.code do8] ⟨T,[]⟩ w:=by
 obtain⟨g,rfl⟩:=hT;unfold Td;rw[aop];refine Az uk rfl (Fj uk ?_);rw[aiB];simp only[List.range,List.range.loop];refine rf rC uk (.int .i64 (K:Int)) iQ rfl ak (λz _=>bV) ?_;walk_nrm;refine rf rC uk (.slice (some ⟨bc,0,none⟩) M M) iQ rfl ak (λz _=>bV) ?_;walk_nrm;refine DT uk iQ rfl aF func52 ak (c:=Jt) ak (vs:=#[.int .i64 (K:Int),.slice (some ⟨bc,0,none⟩) M M]) (n:=67) jF ak ?_;unfold frD at qZ;exact qZ _ ⟨_,Xu rfl⟩
theorem aeS(uk:zN X D){vd:ai}(hT:TD2 vs K N tt M bc vd T)
  (qZ:∀T',TD2 vs K N tt M bc vd T'->uN prog X Y D Stop 53 (frF T'::cs) [.code Bf] ⟨#[.int .i64 ((K:Nat):Int),.int .i64 ((N:Nat):Int),vd]++Array.replicate 23 undef,[]⟩ w):
  yu prog X Y D Stop none [] 25 cs [.code do9] T w:=by
 obtain⟨g,rfl⟩:=hT;unfold Td;rw[aoq];refine yB uk (JB uk ?_);rw[aiC];simp only[List.range,List.range.loop];refine rf rC uk (.int .i64 (K:Int)) l_ rfl ak (λz _=>bV) ?_;walk_nrm;refine rf rC uk (.int .i64 (N:Int)) l_ rfl ak (λz _=>bV) ?_;walk_nrm;refine rf rC uk vd l_ rfl ak (λz _=>bV) ?_;walk_nrm;refine DT uk l_ rfl aF func53 ak (c:=Bf) ak (vs:=#[.int .i64 (K:Int),.int .i64 (N:Int),vd]) (n:=23) jF ak ?_;unfold frF at qZ;exact qZ _ ⟨_,Xu rfl⟩
theorem aos(uk:zN X D)(hT:TD1 vs K N tt M bc T){C:Nat}{dN:Nat->Nat}{ls:List (aj)}(hP:aot w C K L dN ls)(hK:0<K/\K<=128)(hL:L<=65536)(ht:tt<=ls.flatten.length)
  (qZ:∀T' vd w',TD2 vs K N tt M bc vd T'->qP w' vd (rP (ls.flatten.take tt))->Qe vd tt->tX w.heap.size w w'->uN prog X Y D Stop 53 (frF T'::cs) [.code Bf] ⟨#[.int .i64 ((K:Nat):Int),.int .i64 ((N:Nat):Int),vd]++Array.replicate 23 undef,[]⟩ w'):
  ∀z,rG X Y z w->sU prog D Stop (G ((frD T).finish (.slice (some ⟨C,0,none⟩) K K)) cs) z:=by
 rw[show frD T=Dn none [] 25 T (.inRegion dO8 [2,3,4,5,6]::[.code do9])from rfl];rw[DU iQ];show yu _ _ _ _ _ _ _ _ _ _ _ _;obtain⟨g,rfl⟩:=hT;unfold Td;walk_nrm;refine FN.2 ?_;refine Uz rC uk (rC.body (f:=51) ak ak) (R:=λv w'=>qP w' v (rP ls.flatten)/\Qe v ls.flatten.length/\tX w.heap.size w w') iQ rfl aF (vs:=#[.slice (some ⟨C,0,none⟩) K K,.slice none 0 0]) jF (Nat.le_of_ble_eq_true ak) (λτ d=>?_) ?_
 .refine(af8 (w:={w with tape:=τ,drawn:=d}) (C:=C) (K:=K) (L:=L) (dN:=dN) (ls:=ls) ⟨hP.len,hP.each,hP.N7,hP.byte⟩ hK hL).mono ?_;rintro r w' ⟨v,rfl,h1,h2,h3⟩;exact⟨v,rfl,h1,h2,((tX.refl _ w).tp τ d).trans (tX.of h3) (ay _)⟩
 intro vj w1 ⟨hLj,hDj,Jf⟩;refine FN.1 ?_;walk_nrm;generalize ls.flatten=lj at*;rcases hDj with⟨rfl,h0⟩|⟨b,off,cj,rfl,hc⟩
 .obtain rfl:tt=0:=ag;refine rf rC uk (.int .i64 ((0:Nat):Int)) iQ rfl ak (λz _=>bV) ?_;walk_nrm;refine rf rC uk (.slice none 0 0) iQ rfl ak (λz _=>bV) ?_;walk_nrm;refine rf rC uk (.slice none 0 0) iQ rfl ak (λz _=>bV) ?_;walk_nrm;refine xh uk (aeS uk ⟨_,Xu rfl⟩ λT' hT'=>qZ T' _ w1 hT' ?_ (.inl ⟨rfl,rfl⟩) Jf);exact⟨none,0,fV,fV,λj u hj=>nV⟩
 .have h1:((tt:Nat):Int)<=((cj:Nat):Int):=ag;have h2:((tt:Nat):Int)<=((lj.length:Nat):Int):=ag
  have hLd:qP w1 (.slice (some ⟨b,off,none⟩) tt cj) (rP (lj.take tt)):=by have:=Qg hLj (s:=0) (t:=tt) ag cj ag;exact axb
  refine rf rC uk (.int .i64 ((tt:Nat):Int)) iQ rfl ak (λz _=>bV) ?_;walk_nrm;refine rf rC uk (.slice (some ⟨b,off,none⟩) tt cj) iQ rfl ak (λz _=>bV) ?_;walk_nrm;refine rf rC uk (.slice (some ⟨b,off,none⟩) tt cj) iQ rfl ak (λz _=>bV) ?_;walk_nrm;exact xh uk (aeS uk ⟨_,Xu rfl⟩ λT' hT'=>qZ T' _ w1 hT' hLd (.inr ⟨b,off,cj,rfl,ag⟩) Jf)
theorem aou(uk:zN X D){vd va:ai}(hT:TD2 vs K N tt M bc vd T)
  (qZ:∀T',TD3 vs K N tt M bc vd va T'->yu prog X Y D Stop none [] 25 cs [.code ac2] T' w):
  ∀z,rG X Y z w->sU prog D Stop (G ((frF T).finish va) cs) z:=by
 rw[show frF T=Dn none [] 25 T (.inRegion dO9 [3,4]::[.code ac2])from rfl];rw[DU l_];show yu _ _ _ _ _ _ _ _ _ _ _ _;obtain⟨g,rfl⟩:=hT;unfold Td;walk_nrm;refine rf rC uk va l_ rfl ak (λz _=>bV) ?_;walk_nrm;exact xh uk (qZ _ ⟨_,Xu rfl⟩)
end
def DoR(M:Nat)(sh:Nat->vZ)(again:Nat->aj)(vd:ai)(w:ah)(y:ai)(w':ah):Prop:=
 tX w.heap.size w w'/\((y=.tuple #[vd,.nilIface]/\∀t,t<M->(sh t).qC=again (sh t).i)\/∃e p,y=.tuple #[.slice none 0 0,e]/\sF w' 0 e 13 p/\¬∀t,t<M->(sh t).qC=again (sh t).i)
section
variable {X:Nat->Prop}{Y:Nat->aZ}{D:Nat->ah->aN->Prop}{Stop:aI->ah->Prop}{w:ah}{cs:aT}{K N L tt M bc C:Nat}{vs vd:ai}{T:aH}{sh:Nat->vZ}{vC va:Nat->ai}{again:Nat->aj}
theorem alL(uk:zN X D)(hT:TD3 vs K N tt M bc vd (.slice (some ⟨C,0,none⟩) N N) T)(hM:M<=128)(hC:CR bc M M sh vC w)(LP:∀i,i<M->qP w (vC i) (rP (sh i).qC))(VX:∀i,i<M->(sh i).i<N)
  (hag:∀i,i<N->w.cell? ⟨C,i,none⟩=some (va i)/\qP w (va i) (rP (again i))) {c0:aS}
  (hK:∀y v',DoR M sh again vd w y v'->∀w',rG X Y w' v'->sU prog D Stop (G (c0.finish y) cs) w'):
  uN prog X Y D Stop 25 (c0::cs) [.code ac2] ⟨T,[]⟩ w:=by
 refine Gv rC uk ak func25 (λτ d=>?_) hK;have bl:tX w.heap.size w {w with tape:=τ,drawn:=d}:=(tX.refl _ w).tp τ d;generalize({w with tape:=τ,drawn:=d}:ah)=wA at bl⊢;obtain⟨g,rfl⟩:=hT;unfold Td
 conv in ac2=>simp only[ac2,do9,do8,xQ,rX,Tryz.f25,bf]
 go_wp2
 go_loopw [12,13,58] (λ_ _ vi wr=>∃j:Nat,j<=M/\vi=.int .i64 (j:Int)/\tX w.heap.size w wr/\∀t,t<j->(sh t).qC=again (sh t).i) (λ_ _ vi _=>M-(intOf vi).toNat)
 case atStart=>exact⟨0,ag,rfl,bl,λt ht=>absurd ht ag⟩
 case round=>
  clear bl;obtain⟨j,hj,rfl,blr,xg⟩:=hrel;by_cases qB:j<M
  .have xZ:(j:Int)<(M:Int):=ag;have hxN:=VX j qB;have atD:(((sh j).i:Nat):Int)<(N:Int):=ag;have r0:w.rowIs bc _ _ _:=hC;have p0:=r0.cell (i:=j*2) ag;have p1:=r0.cell (i:=j*2+1) ag;simp only[show j*2/2=j by omega,show(j*2+1)/2=j by omega,qB,aY,crF,show j*2%2=0 by omega,show¬(j*2+1)%2=0 by omega,bU]at p0 p1;obtain⟨ga,gl⟩:=hag _ hxN;have hs:=xn blr;have L1:=hs.lies (LP j qB);have L2:=hs.lies gl;replace p0:=hs.cell p0;replace p1:=hs.cell p1;replace ga:=hs.cell ga;have lb:=rY p0;have lC:=rY ga;simp only at lb lC;obtain⟨bq,cq,ev⟩:=L1.len;obtain⟨bz,cz,ez⟩:=L2.len;have cn:=DR wr [.int .i64 (((sh j).i:Nat):Int),vC j] 55;have c0:=cn 0;have c1:=cn 1;simp only[jg,jh]at c0 c1;have b1:∀o:Obj,Below wr.heap.size wr (wr.alloc o):=λo=>(aO _ _).alloc (ay _) o
   have ga1:∀o:Obj,(wr.alloc o).cell? ⟨C,(sh j).i,none⟩=some (va (sh j).i):=λo=>((b1 o).cell (p:=⟨C,(sh j).i,none⟩) lC).trans ga
   have kE:∀(o:Obj)(nq:Nat),Calls prog 54 #[vC j,va (sh j).i] ((wr.alloc o).drewN nq) λr w'=>r=.returned (.bool ((sh j).qC==again (sh j).i))/\w'=(wr.alloc o).drewN nq:=λo nq=>aaR _ _ _ _ _ ((L1.below (b1 o)).drewN nq) ((L2.below (b1 o)).drewN nq)
   have bE:∀(o:Obj)(nq:Nat),tX w.heap.size w ((wr.alloc o).drewN nq):=λo nq=>blr.trans (tX.of (below_drewN (b1 o) nq)) blr.uo
   clear cn L1 L2 gl hs r0;generalize hvj:vC j=vj at*;generalize hva:va (sh j).i=vz at*;subst ev ez
   go_wp2_with fail
   replace ga1:=ga1 (.cells #[.int .i64 (((sh j).i:Nat):Int),.slice bq (rP (sh j).qC).length cq] 55);replace kE:=kE (.cells #[.int .i64 (((sh j).i:Nat):Int),.slice bq (rP (sh j).qC).length cq] 55);replace bE:=bE (.cells #[.int .i64 (((sh j).i:Nat):Int),.slice bq (rP (sh j).qC).length cq] 55);generalize wr.alloc (.cells #[.int .i64 (((sh j).i:Nat):Int),.slice bq (rP (sh j).qC).length cq] 55)=w1 at*;clear p0 p1 ga blr b1 lb lC;generalize wr.heap.size=pp at*;rcases he:((sh j).qC==again (sh j).i)with _|_
   .rw[he]at kE
    go_quiet ((go_at_call 54;exact Calls.quiet_of_same (kE _)))
    replace bE:=bE nq;generalize w1.drewN nq=w2 at bE⊢
    go_wp2_with(first|(go_at_call 49;refine(AA _ _ 13 j aF aA _).mono ?_;rintro q w3 ⟨v,rfl,h1,h2⟩))
    go_ret2;exact⟨_,rfl,bE.trans (tX.of h2) bE.uo,.inr ⟨v,j,rfl,h1,λhh=>by rw[hh j qB]at he;simp at he⟩⟩
   .rw[he]at kE
    go_quiet ((go_at_call 54;exact Calls.quiet_of_same (kE _)))
    replace bE:=bE nq;generalize w1.drewN nq=w2 at bE⊢;go_wp2;refine⟨⟨j+1,ag,aA,bE,λt ht=>?_⟩,jV⟩;rcases bK t j with h|h
    .exact xg t h
    .obtain rfl:t=j:=ag;simpa using he
  .obtain rfl:j=M:=ag;have E5:¬((j:Int)<(j:Int)):=ag;go_wp2;go_ret2;exact⟨_,rfl,blr,.inl ⟨rfl,xg⟩⟩
end
end Go.Proofs.Y
namespace Go.Proofs.Y
open Go.Proofs.Tryz
open Go.RowKit Go.Deep
theorem aov{k:Nat}{M A B:Nat->Nat->F}(hg:F.Gj k M k A B){x y:Nat->F}(h:∀i,i<k->F.dot k (M i) x=y i)(i:Nat)(hi:i<k):F.dot k (B i) y=x i:=by have:=(hg.same x y).2 h i hi;rw[F.yw hi λj hj=>avw]at this;exact this.symm
theorem aiE{r x:Nat->Nat}(hr:∀j,r j<256)(hx:∀j,x j<256):∀n,(F.sum (List.range n) λj=>F.mu (Fin.ofNat 256 (r j)) (Fin.ofNat 256 (x j))).val=A7 r x n
 |0=>rfl
 |n+1=>by rw[aaS];show(F.sum (List.range n) λj=>F.mu (Fin.ofNat 256 (r j)) (Fin.ofNat 256 (x j))).val^^^mul (r n%256) (x n%256)=_;rw[aiE hr hx n,dB (hr n),dB (hx n)];rfl
theorem aiF(l:aj)(L j m:Nat):Ox l L j m<256:=(l.getD (j*L+m) 0).toNat_lt
theorem aeT{K L m:Nat}{ix σ:Nat->Nat}{B:Nat->Nat->F}{yv:Nat->Nat->Nat}{l:aj}(uD:FT K ix σ)(hg:∃A,F.Gj K (mF K λs=>ix (σ s)) K A B)(h:∀i,i<K->yv i m=A7 (sN K (ix i)) (λj=>Ox l L j m) K){t:Nat}(ht:t<K):(xF K B yv σ t m).val=Ox l L t m:=by
 obtain⟨A,hg⟩:=hg;unfold xF;rw[aov hg (x:=λj=>Fin.ofNat 256 (Ox l L j m)) (λs hs=>?_) t ht]
 .exact dB (aiF l L t m)
 .refine fC ?_;refine(aiE (r:=sN K (ix (σ s))) (λ_=>Am) (λj=>aiF l L j m) K).trans ?_;show _=yv (σ s) m%256;rw[h _ (uD.lt s hs),dB (OM (λ_=>Am) K)]
def zU(K L:Nat)(x:Nat->Nat->Nat):List (aj):=(List.range K).map λt=>(List.range L).map λm=>UInt8.ofNat (x t m)
theorem ac4{K L:Nat}{x:Nat->Nat->Nat}:∀l∈zU K L x,l.length=L:=λl hl=>by obtain⟨t,_,rfl⟩:=gI.1 hl;simp
theorem Nw(L:Nat)(x:Nat->Nat->Nat):∀K,(zU K L x).flatten.length=K*L
 |0=>by simp[zU]
 |K+1=>by have:=Nw L x K;simp only[zU]at this⊢;rw[dP,iP,auT,bM,this];simp[fP]
theorem UG{L:Nat}(x:Nat->Nat->Nat):∀K i,i<K*L->(zU K L x).flatten[i]?=some (UInt8.ofNat (x (i/L) (i%L)))
 |0,i,h=>by simp at h
 |K+1,i,h=>by
  have hl:=Nw L x K;have hi:=UG (L:=L) x K i;simp only[zU]at hl hi⊢;rw[dP,iP,auT];rcases bK i (K*L)with h1|h1
  .rw[ig (by rw[hl];exact h1)];exact hi h1
  .rw[ji (by rw[hl];exact h1),hl];rw[fP]at h;have e1:i/L=K:=lV h1 (by rw[fP];exact h)
   have e2:i%L=i-K*L:=by have:=lX i L;rw[e1,fQ]at this;omega
   rw[e1,e2];simp only[je,kU,o_,List.flatten_nil,dX,dV];rw[o8 ag];rfl
theorem Y7{k:Nat}(hk:1<=k)(t:Nat):t<=k*rO k t:=by unfold rO;have h1:=lX (t+k-1) k;have h2:=jb (t+k-1) (show 0<k by omega);omega
theorem UH{K L:Nat}{x:Nat->Nat->Nat}{l:aj}(hl:l.length<=K*L)(h:∀t m,t<K->m<L->x t m=Ox l L t m):(zU K L x).flatten.take l.length=l:=by
 refine jk λi=>?_
 rw[nI];split
 .rename_i hi;have h1:i<K*L:=ag;have hL:0<L:=Nat.pos_of_ne_zero λe=>by subst e;simp at h1
  rw[UG x K i h1,h _ _ ((auO hL).2 h1) (jb _ hL)];unfold Ox sV;rw[fQ,lX,bG,bQ hi];simp
 .rename_i hi;rw[h_ ag]
