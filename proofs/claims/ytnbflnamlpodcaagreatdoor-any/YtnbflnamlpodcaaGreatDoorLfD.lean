import Derived.Test.YtnbflnamlpodcaaGreatDoorLfG
namespace Go.Lf
def xY(P:Program){α:Type}(Q:α->Prop):Sem α->Prop
 | .pure a=>Q a
 | .load _ _ k=>∀v,xY P Q (k v)
 | .store _ _ _ k=>xY P Q k
 | .new _ k=>∀r,xY P Q (k r)
 | .shape _ k=>∀s,xY P Q (k s)
 | .freeze _ _ k=>xY P Q k
 | .frozen _ k=>∀b,xY P Q (k b)
 | .getObj _ k=>∀o,xY P Q (k o)
 | .setObj _ _ k=>xY P Q k
 | .choose _ k=>∀n,xY P Q (k n)
 | .sys _ k=>∀r,xY P Q (k r)
 | .program k=>xY P Q (k P)
 | .mark _ k=>xY P Q k
 | .halt _=>True
section
variable {P:Program}{α β:Type}
theorem rq{Q:β->Prop}:∀(s:Sem α)(f:α->Sem β),(∀a,xY P Q (f a))->xY P Q (s.bind f)
 | .pure a,_,h=>h a
 | .load _ _ k,f,h=>λv=>rq (k v) f h
 | .store _ _ _ k,f,h=>rq k f h
 | .new _ k,f,h=>λv=>rq (k v) f h
 | .shape _ k,f,h=>λv=>rq (k v) f h
 | .freeze _ _ k,f,h=>rq k f h
 | .frozen _ k,f,h=>λv=>rq (k v) f h
 | .getObj _ k,f,h=>λv=>rq (k v) f h
 | .setObj _ _ k,f,h=>rq k f h
 | .choose _ k,f,h=>λv=>rq (k v) f h
 | .sys _ k,f,h=>λv=>rq (k v) f h
 | .program k,f,h=>rq (k P) f h
 | .mark _ k,f,h=>rq k f h
 | .halt _,_,_=>trivial
theorem sV{R:α->Prop}{Q:β->Prop}:∀(s:Sem α)(f:α->Sem β),xY P R s->(∀a,R a->xY P Q (f a))->xY P Q (s.bind f)
 | .pure a,_,hs,h=>h a hs
 | .load _ _ k,f,hs,h=>λv=>sV (k v) f (hs v) h
 | .store _ _ _ k,f,hs,h=>sV k f hs h
 | .new _ k,f,hs,h=>λv=>sV (k v) f (hs v) h
 | .shape _ k,f,hs,h=>λv=>sV (k v) f (hs v) h
 | .freeze _ _ k,f,hs,h=>sV k f hs h
 | .frozen _ k,f,hs,h=>λv=>sV (k v) f (hs v) h
 | .getObj _ k,f,hs,h=>λv=>sV (k v) f (hs v) h
 | .setObj _ _ k,f,hs,h=>sV k f hs h
 | .choose _ k,f,hs,h=>λv=>sV (k v) f (hs v) h
 | .sys _ k,f,hs,h=>λv=>sV (k v) f (hs v) h
 | .program k,f,hs,h=>sV (k P) f hs h
 | .mark _ k,f,hs,h=>sV k f hs h
 | .halt _,_,_,_=>trivial
theorem tu{Q:α->Prop}:∀(s:Sem α),xY P Q s->∀(w:World)(es:Array Event)(x:α)(w':World)(es':Array Event),s.runT P w es=(.ok x w',es')->Q x
 | .pure a,h,w,es,x,w',es',hr=>by simp only[Sem.runT]at hr;cases hr;exact h
 | .load m a k,h,w,es,x,w',es',hr=>by
   unfold Sem.runT at hr;cases hc:w.cell? a with
   |some v=>rw[hc]at hr;exact tu (k v) (h v) _ _ _ _ _ hr
   |none=>
    rw[hc]at hr;dsimp only at hr;cases hf:w.farLoad P a (m==.atomic)with
    |ok r=>rw[hf]at hr;exact tu (k r.1) (h r.1) _ _ _ _ _ hr
    |error e=>rw[hf]at hr;cases hr
 | .store m a v k,h,w,es,x,w',es',hr=>by
   have key:(∀(w:World),(Sem.store m a v k).runT P w es=match w.cell? a with
     |some _=>if w.frozen? a then(.halt (.unsupported (.unsafePointer "a write to bytes that a string shares")) w,es)else k.runT P (w.setCell a v) (es.push ⟨.cell a,true,m==Mode.atomic⟩)
     |none=>match w.farStore P a v (m==Mode.atomic)with
      | .ok (w,touched)=>k.runT P w (es++touched.toArray.map (⟨.cell ·,true,m==Mode.atomic⟩))
      | .error h=>(.halt h w,es))\/(∀(w:World),(Sem.store m a v k).runT P w es=(.halt (.stuck "store: not the value of one cell") w,es)):=by
    cases v<;>first|exact .inr λ_=>rfl|exact .inl λ_=>rfl
   rcases key with key|key
   .rw[key]at hr;cases hc:w.cell? a with
    |some u=>
     rw[hc]at hr;dsimp only at hr;split at hr
     .cases hr
     .exact tu k h _ _ _ _ _ hr
    |none=>
     rw[hc]at hr;dsimp only at hr;cases hf:w.farStore P a v (m==.atomic)with
     |ok r=>rw[hf]at hr;exact tu k h _ _ _ _ _ hr
     |error e=>rw[hf]at hr;cases hr
   .rw[key]at hr;cases hr
 | .new o k,h,w,es,x,w',es',hr=>tu (k w.heap.size) (h _) _ es x w' es' hr
 | .shape r k,h,w,es,x,w',es',hr=>tu (k (w.shape? r)) (h _) w es x w' es' hr
 | .freeze a n k,h,w,es,x,w',es',hr=>tu k h (w.freeze a n) es x w' es' hr
 | .frozen a k,h,w,es,x,w',es',hr=>tu (k (w.frozen? a)) (h _) w es x w' es' hr
 | .getObj r k,h,w,es,x,w',es',hr=>by
   unfold Sem.runT at hr;split at hr
   .cases hr
   .exact tu (k _) (h _) _ _ _ _ _ hr
   .cases hr
 | .setObj r o k,h,w,es,x,w',es',hr=>by
   unfold Sem.runT at hr;split at hr
   .cases hr
   .exact tu k h _ _ _ _ _ hr
   .cases hr
 | .choose q k,h,w,es,x,w',es',hr=>by
   unfold Sem.runT at hr;split at hr
   .exact tu (k 0) (h _) _ _ _ _ _ hr
   .exact tu (k _) (h _) _ _ _ _ _ hr
 | .sys c k,h,w,es,x,w',es',hr=>tu (k (w.sys c).1) (h _) (w.sys c).2 _ x w' es' hr
 | .program k,h,w,es,x,w',es',hr=>tu (k P) h w es x w' es' hr
 | .mark m k,h,w,es,x,w',es',hr=>tu k h w _ x w' es' hr
 | .halt _,_,_,_,_,_,_,hr=>aoc
theorem NR{f:α->Sem β}(h:∀a,Plain P (f a)):∀l:List α,Plain P (l.mapM f)
 |[]=>trivial
 |a::l=>by rw[List.mapM_cons];exact qh (h a) λb=>qh (NR h l) λbs=>qg _
theorem Qq{f:α->Sem β}(h:∀a,Plain P (f a))(l:Array α):Plain P (l.mapM f):=by rw[Array.mapM_eq_mapM_toList];exact L9 (NR h _)
end
def isInt(P:Program)(t:TypeId):Bool:=match P.underlying t with|some (.int _)=>true|_=>false
theorem Qr{P:Program}{t:TypeId}(h:isInt P t=true):∃k,P.underlying t=some (.int k):=by
 unfold isInt at h;split at h
 .exact⟨_,fP⟩
 .cases h
def isBytes(P:Program)(s d:TypeId):Bool:=match P.underlying s,P.underlying d with
 |some (.slice e),some .string=>(match P.underlying e with|some (.int .u8)=>true|_=>false)
 |_,_=>false
theorem Vo{P:Program}{s d:TypeId}(h:isBytes P s d=true):∃e,P.underlying s=some (.slice e)/\P.underlying d=some .string/\P.underlying e=some (.int .u8):=by
 unfold isBytes at h;split at h
 .rename_i e h1 h2;split at h
  .exact⟨e,h1,h2,fP⟩
  .cases h
 .cases h
def isStr(P:Program)(s d:TypeId):Bool:=match P.underlying s,P.underlying d with
 |some .string,some (.slice e)=>(match P.underlying e with|some (.int .u8)=>true|_=>false)
 |_,_=>false
theorem ZU{P:Program}{s d:TypeId}(h:isStr P s d=true):∃e,P.underlying s=some .string/\P.underlying d=some (.slice e)/\P.underlying e=some (.int .u8):=by
 unfold isStr at h;split at h
 .rename_i e h1 h2;split at h
  .exact⟨e,h1,h2,fP⟩
  .cases h
 .cases h
def TZ:Builtin->Bool
 | .len| .cap| .append| .copy| .min| .max=>true
 |_=>false
def arity(P:Program)(f:FuncId):Nat:=match P.funcs[f]? with
 |some fn=>fn.params.size+fn.nfree
 |none=>0
abbrev Vf:=List (Nat×FuncId×Nat)
def NS(S:Vf)(x:FuncId×Nat):Op->Bool
 | .makeFunc (.func g) first cap=>g==x.1&&first.size+cap.size==x.2
 | .move (.tmp j)=>S.contains (j,x)
 | .assign (.tmp j)=>S.contains (j,x)
 |_=>false
def alC(S:Vf)(o:Oper):Bool:=S.all λx=>if o.dst==some x.1 then NS S x.2 o.op else true
def ZV(P:Program)(F:FuncId->Bool)(n:Nat)(name:String):Bool:=P.types.all λi=>i.methods.all λm=>m.name != name||match m.func with
 |none=>true
 |some (f,_)=>F f&&decide (n<=arity P f)
def CV(P:Program)(F:FuncId->Bool)(S:Vf)(o:Oper):Bool:=
 alC S o&&match o.op with
 | .move _| .assign _| .pick ..| .alloc _| .box ..| .build ..| .buildSlice ..| .load ..| .store ..| .nilCheck _| .unOp ..| .makeSlice ..| .makeFunc ..| .slice ..| .fieldAddr ..| .field ..| .indexAddr ..| .index ..| .extract ..| .binOp ..| .typeAssert ..| .makeInterface ..| .panic _=>true
 | .convert s d _=>(isInt P s&&isInt P d)||isBytes P s d||isStr P s d
 | .call c=>match c.callee with
   | .builtin b=>TZ b
   | .value (.func f)=>F f&&decide (c.args.size<=arity P f)
   | .value (.tmp j)=>S.any (λx=>x.1==j)&&S.all λx=>if x.1==j then F x.2.1&&decide (x.2.2+c.args.size<=arity P x.2.1)else true
   | .invoke _ name=>ZV P F (1+c.args.size) name
   |_=>false
 |_=>false
def sU(P:Program)(F:FuncId->Bool)(S:Vf):Code->Bool
 | .skip| .ret| .exit _=>true
 | .seq a b=>sU P F S a&&sU P F S b
 | .cond _ a b=>sU P F S a&&sU P F S b
 | .block _ c=>sU P F S c
 | .loop c=>sU P F S c
 | .region _ ops _=>ops.all (CV P F S)
 |_=>false
abbrev ag7(P:Program)(F:FuncId->Bool)(o:Oper):Bool:=CV P F [] o
abbrev Ed(P:Program)(F:FuncId->Bool)(c:Code):Bool:=sU P F [] c
def FW(P:Program)(F:FuncId->Bool)(f:FuncId):Prop:=∃fn c S,P.funcs[f]?=some fn/\(fn.name== "runtime.NumGoroutine")=false/\fn.body=some c/\sU P F S c=true/\∀x∈S,arity P f<=x.1
def J6(P:Program)(f:FuncId):Prop:=∃fn,P.funcs[f]?=some fn/\(fn.name== "runtime.NumGoroutine")=false/\fn.body=none/\Extern.findNext fn=none/\∀e,Extern.find fn=some e->∀anE,qy P (e anE)
def vX(P:Program)(F:FuncId->Bool):Prop:=∀f,F f=true->FW P F f\/J6 P f
def abh(P:Program)(f:FuncId):Bool:=(P.funcs[f]?).any (·.body.isSome)
theorem vX.body{P:Program}{F:FuncId->Bool}(h:vX P F){f:FuncId}(hf:F f=true)(hb:abh P f=true):FW P F f:=by
 rcases h f hf with h1|⟨fn,h1,_,h3,_⟩
 .exact h1
 .unfold abh at hb;rw[h1]at hb;simp[h3]at hb
def Yld(P:Program)(F:FuncId->Bool)(x:Next):Prop:=(∃v,x=.value v)\/x=.skip\/∃f anE,FW P F f/\anE.size<=arity P f/\x=.enter f anE
section
variable {P:Program}{F:FuncId->Bool}
theorem zS(hF:vX P F){f:FuncId}(hf:F f=true){anE:Array Value}(ha:anE.size<=arity P f):qy P (callFunc f anE)/\xY P (Yld P F) (callFunc f anE):=by
 rcases hF f hf with⟨fn,c,S,h1,h2,h3,h4,h5⟩|⟨fn,h1,h2,h3,h4,h6⟩
 .have hne:fn.body.isNone=false:=by rw[h3];rfl
  have key:∀(Q:Sem Next->Prop),Q (pure (.enter f anE))->Q ((λp:Program=>match p.funcs[f]? with
   |none=>stuck "call: no such function"
   |some fn=>if fn.name== "runtime.NumGoroutine" then pure .numGoroutine
    else if fn.body.isNone then(do
     mark (.extern f)
     if let some e:=Extern.findNext fn then return<-e anE
     match Extern.find fn with
     |some e=>pure (.value (<-e anE))
     |none=>
      if fn.name.endsWith ".init" &&!fn.name.startsWith "(" &&!fn.name.startsWith "gosem." then pure (.value (.tuple #[]))
      else unsupported (.extern fn.name))
    else pure (.enter f anE):Program->Sem Next) P):=λQ hQ=>by
   dsimp only;rw[h1];dsimp only;rw[h2,hne];exact hQ
  refine⟨qy.of (key (Plain P) (qg _)),key (xY P (Yld P F)) (.inr (.inr ⟨f,anE,⟨fn,c,S,h1,h2,h3,h4,h5⟩,ha,rfl⟩))⟩
 .have hne:fn.body.isNone=true:=by rw[h3];rfl
  have hm:qy P (mark (.extern f)):=qy.of ⟨.inr ⟨f,rfl⟩,trivial⟩;cases h5:Extern.find fn with
  |some x=>
   have key:∀(Q:Sem Next->Prop),Q (mark (.extern f)>>=λ_=>(do pure (.value (<-x anE))))->Q ((λp:Program=>match p.funcs[f]? with
    |none=>stuck "call: no such function"
    |some fn=>if fn.name== "runtime.NumGoroutine" then pure .numGoroutine
     else if fn.body.isNone then(do
      mark (.extern f)
      if let some e:=Extern.findNext fn then return<-e anE
      match Extern.find fn with
      |some e=>pure (.value (<-e anE))
      |none=>
       if fn.name.endsWith ".init" &&!fn.name.startsWith "(" &&!fn.name.startsWith "gosem." then pure (.value (.tuple #[]))
       else unsupported (.extern fn.name))
     else pure (.enter f anE):Program->Sem Next) P):=λQ hQ=>by
    exact arJ
   have h8:qy P (mark (.extern f)>>=λ_=>(do pure (Next.value (<-x anE)):Sem Next)):=qy.bind hm λ_=>qy.bind (h6 x h5 anE) λ_=>qU _
   have h9:xY P (Yld P F) (mark (.extern f)>>=λ_=>(do pure (Next.value (<-x anE)):Sem Next)):=rq (mark (.extern f)) _ λ_=>rq (x anE) _ λv=>.inl ⟨v,rfl⟩
   exact⟨MC (key (λs=>qy P s) h8),key (xY P (Yld P F)) h9⟩
  |none=>
   have key:∀(Q:Sem Next->Prop),Q (mark (.extern f)>>=λ_=>(if(fn.name.endsWith ".init" &&!fn.name.startsWith "(" &&!fn.name.startsWith "gosem.")=true then pure (.value (.tuple #[]))else unsupported (.extern fn.name)))->Q ((λp:Program=>match p.funcs[f]? with
    |none=>stuck "call: no such function"
    |some fn=>if fn.name== "runtime.NumGoroutine" then pure .numGoroutine
     else if fn.body.isNone then(do
      mark (.extern f)
      if let some e:=Extern.findNext fn then return<-e anE
      match Extern.find fn with
      |some e=>pure (.value (<-e anE))
      |none=>
       if fn.name.endsWith ".init" &&!fn.name.startsWith "(" &&!fn.name.startsWith "gosem." then pure (.value (.tuple #[]))
       else unsupported (.extern fn.name))
     else pure (.enter f anE):Program->Sem Next) P):=λQ hQ=>by
    exact arJ
   refine⟨MC (key (λs=>qy P s) (qy.bind hm λ_=>qy.ite (qU _) (uO trivial))),key (xY P (Yld P F)) (rq (mark (.extern f)) _ λ_=>?_)⟩;split
   .exact .inl ⟨_,rfl⟩
   .exact trivial
end
attribute [local irreducible] Plain
section
variable {P:Program}{F:FuncId->Bool}
theorem XM(t:TypeId)(ps:Array (Nat×Value)):Plain P (Instr.build t ps):=by
 unfold Instr.build
 (repeat'(first|with_reducible(first|exact qg _|exact qj _|exact uF _|exact qp _|exact rO _|exact Qq (λ_=>qh (rO _) λ_=>qg _) _|(refine qh ?_ (λ_=>?_)))|split))
theorem ZW{s d:TypeId}{k k':IntKind}(hs:P.underlying s=some (.int k))(hd:P.underlying d=some (.int k'))(x:Value):Plain P (convert s d x):=by
 unfold convert;refine Ac hs (Ac hd ?_);have h1:∀k n,Plain P (Conv.intToInt k n):=λk n=>by unfold Conv.intToInt;(repeat'(with_reducible exact qg _))
 have h2:∀a b k,Plain P (Conv.floatToInt a b k):=λa b k=>by unfold Conv.floatToInt;(repeat'(first|with_reducible(first|exact qg _|exact uf _|(refine qh ?_ (λ_=>?_))|(refine qF ?_ ?_))|split))
 split<;>first|contradiction|(repeat'(first|((with_reducible refine qY ?_);exact trivial)|with_reducible(first|exact h1 _ _|exact h2 _ _ _)))
theorem NT{γ σ:Type}{f:γ->σ->Sem (ForInStep σ)}(h:∀a s,Plain P (f a s)):∀(l:List γ)(s:σ),Plain P (forIn l s f)
 |[],s=>by rw[List.forIn_nil];exact qg _
 |a::l,s=>by
  rw[List.forIn_cons];refine qh (h a s) λr=>?_
  cases r with
  |done b=>exact qg _
  |yield b=>exact NT h l b
theorem RH(x:Value):Plain P (Conv.bytesToString x):=by
 unfold Conv.bytesToString;split
 .exact qg _
 .refine qh (Az _ _) λcs=>qh ?_ λ_=>qg _
  rw[<-Array.forIn_toList];refine NT (λc s=>?_) _ _
  (repeat'(first|with_reducible(first|exact qg _|exact qj _|(refine qh ?_ (λ_=>?_)))|split))
 ·(repeat'(with_reducible exact qj _))
theorem XN{s d e:TypeId}(hs:P.underlying s=some (.slice e))(hd:P.underlying d=some .string)(he:P.underlying e=some (.int .u8))(x:Value):Plain P (convert s d x):=by
 unfold convert;refine Ac hs (Ac hd ?_);have h1:∀n,Plain P (Conv.intToString n):=λn=>by unfold Conv.intToString;(repeat'(with_reducible exact qg _))
 have h2:Plain P (underlying e>>=λu=>match u with| .int .u8=>Conv.bytesToString x| .int .i32=>Conv.runesToString x|_=>stuck "Convert: a slice of what to string?"):=Ac he (RH x);split
 all_goals first
  |contradiction
  |exact qg _
  |exact h1 _
  |(rename_i hh _ _ _;cases hh;exact h2)
  |trivial
  |(repeat'((with_reducible refine qY ?_);exact trivial))
theorem qy.congr{α:Type}{s s':Sem α}(h:∀w es,s.runT P w es=s'.runT P w es)(h':qy P s'):qy P s:=
 ⟨λw v es x v' es' hs hr=>by rw[h]at hr⊢;exact h'.QX w v es x v' es' hs hr,λv es x v' es' hn hr=>by rw[h]at hr;obtain⟨a,b,c⟩:=h'.tape v es x v' es' hn hr;exact⟨a,b,λτ hτ=>by rw[h];exact c τ hτ⟩,λw v es x v' es' hs hr=>by rw[h]at hr;exact h'.halts w v es x v' es' hs hr⟩
theorem acE(w:World)(cs:Array Value)(t:TypeId):({w with heap:=w.heap.push (.cells cs t)}:World).freeze ⟨w.heap.size,cs.size,none⟩ 1={w with heap:=w.heap.push (.cells cs t (cs.size,cs.size+1))}:=by
 unfold World.freeze;rw[ah au]
 congr 1
 apply Array.ext
 .simp
 .intro i h1 h2;rw[Array.getElem_modify];have hi:i<w.heap.size+1:=iT;by_cases e:w.heap.size=i
  .subst e;simp
  .rw[ah e,ao7 ae,ao7 ae]
theorem Vp(t:TypeId)(s:ByteArray):qy P (Conv.stringToBytes t s):=by
 unfold Conv.stringToBytes;refine qy.bind (Ad _) λcap=>?_
 dsimp only;generalize(s.data.map λ(b:UInt8)=>Value.int .u8 b.toNat)++Array.replicate (cap-s.size) (Value.int .u8 0)=cs;refine qy.congr (s':=newObj (.cells cs t (cs.size,cs.size+1))>>=λb=>pure (.slice (some ⟨b,0,none⟩) s.size cap)) (λw es=>?_) (qy.of (qh (Hz trivial) λ_=>qg _));have hg:({w with heap:=w.heap.push (.cells cs t)}:World).shape? w.heap.size=some (t,cs.size):=by simp[World.shape?]
 show((markStringish ⟨w.heap.size,0,none⟩).bind λ_=>Sem.pure (Value.slice (some ⟨w.heap.size,0,none⟩) s.size cap)).runT P {w with heap:=w.heap.push (.cells cs t)} es=_;unfold markStringish;simp only[shape,freeze,bind,Sem.bind,Sem.runT,hg,pure];rw[acE];rfl
theorem ZX{s d e:TypeId}(hs:P.underlying s=some .string)(hd:P.underlying d=some (.slice e))(he:P.underlying e=some (.int .u8))(x:Value):qy P (convert s d x):=by
 have key:∀(k:TypeDesc->Sem Value)(t:TypeId)(u:TypeDesc),P.underlying t=some u->qy P (k u)->qy P (underlying t>>=k):=λk t u ht hk=>by refine qy.congr (s':=k u) (λw es=>?_) hk;show((match P.underlying t with|some d=>pure d|none=>stuck "no such type" :Sem TypeDesc).bind k).runT P w es=_;rw[ht];rfl
 unfold convert;refine key _ s _ hs (key _ d _ hd ?_);cases x
 case string b=>exact key _ e _ he (Vp e b)
 case slice a n c=>cases a<;>exact uO (u:=.noEntry "convert/other") trivial
 case pointer a=>cases a<;>exact uO (u:=.noEntry "convert/other") trivial
 all_goals exact uO (u:=.noEntry "convert/other") trivial
theorem ZY(x y:Value):Plain P (Builtin.min2 x y):=by unfold Builtin.min2;split<;>(repeat'(first|with_reducible(first|exact qg _|exact qj _)|((with_reducible refine qY ?_);exact trivial)|with_reducible(first|exact uf _|exact BO _ _ _|exact Ba _|(refine qh ?_ (λ_=>?_)))|split))
theorem IE:∀(l:List Value)(x:Value),Plain P (l.foldlM Builtin.min2 x)
 |[],x=>by rw[List.foldlM_nil];exact qg _
 |y::l,x=>by rw[List.foldlM_cons];exact qh (ZY x y) λr=>IE l r
theorem acF(ts:Array TypeId)(t:TypeId)(anE:Array Value):Plain P (Builtin.min_ ts t anE):=by
 unfold Builtin.min_;split
 ·(repeat'(with_reducible exact qj _))
 .exact IE _ _
theorem CW:∀(path:List FieldStep)(t:TypeId)(x:Option Value),Plain P (followBlind path t x)
 |[],_,_=>qg _
 |s::rest,_,_=>by
  unfold followBlind;have ih:=CW rest
  (repeat'(first|with_reducible(first|exact qg _|exact qj _|exact qp _|exact wX _ _ _|exact ih _ _|(refine qh ?_ (λ_=>?_)))|split))
theorem GN:∀(n:Nat)(t:TypeId)(v:Value)(name:String),Plain P (nilAhead n t v name)
 |0,_,_,_=>qg _
 |n+1,t,v,name=>by
  unfold nilAhead;have ih:=GN n
  (repeat'(first|with_reducible(first|exact qg _|exact qj _|exact qX _|exact qp _|exact CW _ _ _|exact ih _ _ _|(refine qh ?_ (λ_=>?_)))|split))
theorem XO{Q:Next->Prop}:xY P Q (runtimePanic .nilDeref:Sem Next):=by unfold runtimePanic;exact rq program _ λp=>trivial
theorem rP{s:Sem Value}:xY P (Yld P F) (do pure (.value (<-s))):=rq s _ λa=>.inl ⟨a,rfl⟩
theorem acG{s:Sem Unit}:xY P (Yld P F) (do s;pure .skip):=rq s _ λ_=>.inr (.inl rfl)
theorem Vq(info:TypeId->Option TypeInfo)(d:TypeDesc)(i:TypeInfo)(h:Made.reckon info d=some i):i.methods=#[]:=by
 have hs:∀fs,Made.reckonStruct info fs=some i->i.methods=#[]:=λfs h=>by unfold Made.reckonStruct at h;simp only[ng,jX,ad2]at h;obtain⟨r,_,h⟩:=h;split at h<;>(cases h;rfl)
 unfold Made.reckon at h;split at h
 case h_7=>exact hs _ h
 case h_1=>
  simp only[ng,jX,ad2]at h;obtain⟨r,_,h⟩:=h;split at h
  .cases h
  .split at h
   .cases h
   .obtain⟨_,_,h⟩:=jX.1 h;cases h;rfl
  .obtain⟨_,_,h⟩:=jX.1 h;cases h;rfl
 all_goals first
  |cases h
  |(simp only[ng,jX,ad2]at h
    repeat (obtain⟨_,_,h⟩:=h)
    first|rfl|(cases h;rfl))
theorem Vr{t:TypeId}{i:TypeInfo}(h:P.info? t=some i):i∈P.types\/i.methods=#[]:=by
 have key:∀n,Made.infoAt P.toTables n t=some i->i∈P.types\/i.methods=#[]:=λn hn=>by
  cases n with
  |zero=>cases hn
  |succ n=>
   unfold Made.infoAt at hn;split at hn
   .exact .inl (dX hn)
   .obtain⟨d,_,hd⟩:=jX.1 hn;exact .inr (Vq _ _ _ hd)
 unfold Tables.info? at h;split at h
 .exact .inl (dX h)
 .exact key _ h
theorem qy.alD{α β:Type}{R:α->Prop}{s:Sem α}{f:α->Sem β}(h:qy P s)(hl:xY P R s)(h':∀a,R a->qy P (f a)):qy P (s>>=f):=by
 have e:∀w es,(s>>=f).runT P w es=match s.runT P w es with
   |(.ok a w',es')=>(f a).runT P w' es'
   |(.halt x w',es')=>(.halt x w',es'):=λw es=>Go.Sem.runT_bind' P s f w es
 have key:∀a v es v1 es1,s.runT P v es=(.ok a v1,es1)->qy P (f a):=λa v es v1 es1 hr=>h' a (tu s hl v es a v1 es1 hr)
 refine⟨λw v es x v' es' hs hr=>?_,λv es x v' es' hn hr=>?_,λw v es x v' es' hs hr=>?_⟩
 .rw[e]at hr;cases hr1:s.runT P v es with
  |mk r es1=>
   rw[hr1]at hr;cases r with
   |halt y v1=>cases hr
   |ok a v1=>
    obtain⟨w1,h1,h2,h3,h4⟩:=h.QX w v es a v1 es1 hs hr1;obtain⟨w2,g1,g2,g3,g4⟩:=(key _ _ _ _ _ hr1).QX w1 v1 es1 x v' es' h2 hr;refine⟨w2,by rw[e,h1];exact g1,g2,ae,λev hev=>?_⟩;rcases g4 ev hev with g5|g5
    .rcases h4 ev g5 with g6|g6
     .exact .inl g6
     .exact .inr (g6.grow apy)
    .exact .inr g5
 .rw[e]at hr;cases hr1:s.runT P v es with
  |mk r es1=>
   rw[hr1]at hr;cases r with
   |halt y v1=>cases hr
   |ok a v1=>
    obtain⟨h1,h2,h3⟩:=h.tape v es a v1 es1 hn hr1;obtain⟨w1,_,hs1,_,_⟩:=h.QX v v es a v1 es1 (vY.self hn) hr1;obtain⟨g1,g2,g3⟩:=(key _ _ _ _ _ hr1).tape v1 es1 x v' es' hs1.nv hr;exact arF
 .rw[e]at hr;cases hr1:s.runT P v es with
  |mk r es1=>
   rw[hr1]at hr;cases r with
   |halt y v1=>
    cases hr;exact h.halts w v es x v' es' hs hr1
   |ok a v1=>
    obtain⟨w1,_,h2,_,_⟩:=h.QX w v es a v1 es1 hs hr1;exact(key _ _ _ _ _ hr1).halts w1 v1 es1 x v' es' h2 hr
theorem RJ(t:TypeId):xY P (λi=>P.info? t=some i) (typeInfo t):=by
 unfold typeInfo;show xY P (λi=>P.info? t=some i) (match P.info? t with|some i=>pure i|none=>_);cases h:P.info? t with
 |some i=>exact rfl
 |none=>trivial
theorem GR{n:Nat}{name:String}(h:ZV P F n name=true):∀(fuel:Nat)(t:TypeId)(v:Value),xY P (λr=>F r.1=true/\n<=arity P r.1) (method fuel t v name)
 |0,_,_=>trivial
 |fuel+1,t,v=>by
  have ih:=GR h fuel;unfold method;refine sV (typeInfo t) _ (RJ t) λi hi=>?_
  cases hm:i.methods.find? (·.name==name)with
  |none=>trivial
  |some m=>
   have h1:=Array.mem_of_find?_eq_some hm;have h2:(m.name==name)=true:=by simpa using Array.find?_some hm
   refine rq (follow _ _ _) _ λr=>?_
   obtain⟨xt,x⟩:=r;dsimp only;cases hf:m.func with
   |none=>
    refine rq (x.get xt) _ λu=>?_
    cases u<;>first
     |exact ih _ _
     |trivial
     |(unfold runtimePanic;exact rq program _ λp=>trivial)
   |some q=>
    obtain⟨f,pr⟩:=q;refine rq (receiverAt _ _ _ _) _ λu=>?_
    rcases Vr hi with h3|h3
    .have h4:=kS.1 h i h3;have h5:=kS.1 h4 m h1;rw[hf]at h5;simp only[bne,h2,iD,jH,fA,gU]at h5;exact h5
    .rw[h3]at h1;simp at h1
theorem ZZ(x:Value):qy P (Instr.panic x):=by
 have key:∀(v:World)(es:Array Event),(∀(b:Nat)(o:Obj),v.heap[b]?=some o->uT o)->∃h v' es',(Instr.panic x).runT P v es=(.halt h v',es')/\Dq h:=λv es hn=>by
  cases x<;>first
   |exact⟨_,_,_,rfl,trivial⟩
   |skip
  have e2:∃(n:Bool)(es2:Array Event),(Instr.panic .nilIface).runT P v es=(if n=true then goPanic .nilIface else runtimePanic .panicNil:Sem Value).runT P v es2:=⟨_,_,rfl⟩;obtain⟨n,es2,e2⟩:=e2;rw[e2];cases n with
  |true=>exact⟨_,_,_,rfl,trivial⟩
  |false=>
   simp only[bF,aU]
   have hd:qJ P (runtimePanic .panicNil:Sem Value):=by unfold runtimePanic;exact qJ.late program _ λp=>qJ.late (elemOf _) _ λ_=>qJ.late (newVar _ _) _ λ_=>trivial
   obtain⟨h,v',es',h1⟩:=rC _ hd v es2;exact⟨h,v',es',h1,sZ _ v v es2 h v' es' (qO _) (vY.self hn) h1⟩
 refine⟨λw v es x v' es' hs hr=>?_,λv es x v' es' hn hr=>?_,λw v es x v' es' hs hr=>?_⟩
 .obtain⟨h,v1,es1,h1,_⟩:=key v es hs.nv;rw[h1]at hr;cases hr
 .obtain⟨h,v1,es1,h1,_⟩:=key v es hn;rw[h1]at hr;cases hr
 .obtain⟨h,v1,es1,h1,h2⟩:=key v es hs.nv;rw[h1]at hr;cases hr;exact h2
def DL(S:Vf)(tmps:Array Value):Prop:=∀x∈S,tmps.getD x.1 undef=undef\/∃fs cs,tmps.getD x.1 undef=.func (.func x.2.1) fs cs/\fs.size+cs.size=x.2.2
theorem UW(hF:vX P F){S:Vf}{tmps:Array Value}{ρ:Operand->Value}(hρ:∀f,ρ (.func f)=.func (.func f) #[] #[])(hτ:∀j,ρ (.tmp j)=tmps.getD j undef)(hS:DL S tmps){o:Oper}(ho:CV P F S o=true):
  qy P (execOp ρ o)/\xY P (Yld P F) (execOp ρ o):=by
 obtain⟨dst,op,ty,pos,after,guard⟩:=o;have V:∀{s:Sem Value},Plain P s->qy P (do pure (Next.value (<-s)):Sem Next):=λh=>qy.of (qh h λ_=>qg _)
 have VO:∀{s:Sem Value},qy P s->qy P (do pure (Next.value (<-s)):Sem Next):=λh=>qy.bind h λ_=>qU _
 have U:∀{s:Sem Unit},Plain P s->qy P (do s;pure Next.skip:Sem Next):=λh=>qy.of (qh h λ_=>qg _)
 unfold CV at ho;rw[fA]at ho;cases op
 case move=>exact⟨qU _,.inl ⟨_,rfl⟩⟩
 case assign=>exact⟨qU _,.inl ⟨_,rfl⟩⟩
 case pick c a b=>exact⟨qy.of (qh (Ba _) λ_=>qg _),rq (asBool _) _ λ_=>.inl ⟨_,rfl⟩⟩
 case alloc=>exact⟨V (XG _ _ _),rP⟩
 case box=>exact⟨V (acB _ _),rP⟩
 case build=>exact⟨V (XM _ _),rP⟩
 case buildSlice=>exact⟨V (MB _ _ _),rP⟩
 case load=>exact⟨V (Vl _ _),rP⟩
 case store=>exact⟨U (Rx _ _ _),acG⟩
 case nilCheck x=>
  have e:execOp ρ ⟨dst,.nilCheck x,ty,pos,after,guard⟩=(match ρ x with
   | .pointer none| .nilIface| .nilFunc=>runtimePanic .nilDeref
   | .func (.method name) first captured=>
     match(first[0]?:Option Value)with
     |some .nilIface=>runtimePanic .nilDeref
     |some (.iface t w)=>do
      if(<-nilAhead ((<-program).types.size+Made.depth) t w name) != some false then
       unsupported (.noEntry "op/nilCheck.the method's receiver behind this interface value is a nil pointer, or cannot be seen to be none, and the arguments act or may panic (ledger 612)")
      pure (.value (.func (.method name) first captured))
     |_=>pure (.value (.func (.method name) first captured))
   |x=>pure (.value x)):=rfl
  rw[e];have np:qy P (runtimePanic .nilDeref:Sem Next):=qy.of (qO _);have nl:xY P (Yld P F) (runtimePanic .nilDeref:Sem Next):=XO;split
  .exact⟨np,nl⟩
  .exact⟨np,nl⟩
  .exact⟨np,nl⟩
  .split
   .exact⟨np,nl⟩
   .constructor
    .refine qy.of ?_
     (repeat'(first|with_reducible exact qg _|((with_reducible refine qY ?_);exact trivial)|with_reducible(first|exact qZ|exact GN _ _ _ _|(refine qh ?_ (λ_=>?_))|(refine qF ?_ ?_))))
    .refine rq program _ λ_=>rq (nilAhead _ _ _ _) _ λr=>?_
     split
     .exact rq (unsupported _) _ λ_=>Or.inl ⟨_,rfl⟩
     .exact Or.inl ⟨_,rfl⟩
   .exact⟨qU _,.inl ⟨_,rfl⟩⟩
  .exact⟨qU _,.inl ⟨_,rfl⟩⟩
 case unOp=>exact⟨V (XI _ _),rP⟩
 case makeSlice=>exact⟨V (Ot _ _ _),rP⟩
 case makeFunc=>exact⟨V (qg _),rP⟩
 case slice=>exact⟨V (Rz _ _ _ _ _),rP⟩
 case fieldAddr=>exact⟨V (RG _ _ _),rP⟩
 case field=>exact⟨V (XK _ _ _),rP⟩
 case indexAddr=>exact⟨V (Ry _ _ _),rP⟩
 case index=>exact⟨V (XL _ _ _),rP⟩
 case extract=>exact⟨V (RF _ _),rP⟩
 case binOp op t x y t'=>exact⟨VO (qy.bind (Z4 _ _ _ _ _ _) λ_=>Z5 _ _ _ _),rP⟩
 case typeAssert=>exact⟨VO (Ou _ _ _ _),rP⟩
 case makeInterface=>exact⟨VO (Jh _ _),rP⟩
 case panic=>exact⟨VO (ZZ _),rP⟩
 case convert s d x=>
  have h1:((isInt P s&&isInt P d)||isBytes P s d||isStr P s d)=true:=ho.2;rw[kJ,kJ,fA]at h1;rcases h1 with(h1|h1)|h1
  .obtain⟨k,hk⟩:=Qr h1.1;obtain⟨k',hk'⟩:=Qr h1.2;exact⟨V (ZW hk hk' _),rP⟩
  .obtain⟨e,h2,h3,h4⟩:=Vo h1;exact⟨V (XN h2 h3 h4 _),rP⟩
  .obtain⟨e,h2,h3,h4⟩:=ZU h1;exact⟨VO (ZX h2 h3 h4 _),rP⟩
 case call c=>
  obtain⟨callee,args,ats⟩:=c;cases callee with
  |builtin b=>
   have h1:TZ b=true:=ho.2;cases b
   case len=>exact⟨V (acC _ _ _),rP⟩
   case cap=>exact⟨V (acD _ _ _),rP⟩
   case append=>exact⟨V (Vs _ _ _),rP⟩
   case copy=>exact⟨V (ZT _ _ _),rP⟩
   case min=>exact⟨V (acF _ _ _),rP⟩
   case max=>exact⟨VO (afL _ _ _),rP⟩
   all_goals cases h1
  |invoke recv name=>
   have h1:ZV P F (1+args.size) name=true:=ho.2
   have e:execOp ρ ⟨dst,.call ⟨.invoke recv name,args,ats⟩,ty,pos,after,guard⟩=callMethod (ρ recv) name ((#[ρ recv]++args.map ρ).extract 1 (#[ρ recv]++args.map ρ).size):=by
    have h0:(#[ρ recv]++args.map ρ)[0]?=some (ρ recv):=(Array.getElem?_append_left (Nat.zero_lt_one)).trans rfl
    show(match(#[ρ recv]++args.map ρ)[0]? with
     |some r=>callMethod r name ((#[ρ recv]++args.map ρ).extract 1 (#[ρ recv]++args.map ρ).size)
     |_=>stuck "call: a method without a receiver")=_
    rw[h0]
   rw[e];unfold callMethod;have hsz:((#[ρ recv]++args.map ρ).extract 1 (#[ρ recv]++args.map ρ).size).size=args.size:=ai;generalize(#[ρ recv]++args.map ρ).extract 1 (#[ρ recv]++args.map ρ).size=anE at hsz;cases ρ recv with
   |iface t v=>
    dsimp only;refine⟨MC (qy.alD (NU _ _ _ _) (GR h1 _ _ _) λr hr=>(zS hF (anE:=#[r.2]++anE) hr.1 az).1),rq program _ λp=>sV (method _ _ _ _) _ (GR h1 _ _ _) λr hr=>(zS hF (anE:=#[r.2]++anE) hr.1 az).2⟩
   |nilIface=>exact⟨qy.of (qO _),XO⟩
   |_=>exact⟨sG _,trivial⟩
  |value x=>
   cases x with
   |func f=>
    have hf:(F f&&decide (args.size<=arity P f))=true:=ho.2;rw[fA,gU]at hf
    have e:execOp ρ ⟨dst,.call ⟨.value (.func f),args,ats⟩,ty,pos,after,guard⟩=callFunc f (#[]++args.map ρ++#[]):=by show(Deferred.ofValue (ρ (.func f)) (args.map ρ)>>=λd=>invoke d.target d.args)=_;rw[hρ];rfl
    rw[e];exact zS hF (anE:=#[]++args.map ρ++#[]) hf.1 (by simpa using hf.2)
   |tmp j=>
    have hj:(S.any (λx=>x.1==j)&&S.all λx=>if x.1==j then F x.2.1&&decide (x.2.2+args.size<=arity P x.2.1)else true)=true:=ho.2;rw[fA]at hj;obtain⟨y,hy,hyj⟩:=List.any_eq_true.1 hj.1;have alE:y.1=j:=by simpa using hyj
    have h2:=iP.1 hj.2 y hy;rw[aj hyj,fA,gU]at h2;have e0:execOp ρ ⟨dst,.call ⟨.value (.tmp j),args,ats⟩,ty,pos,after,guard⟩=(Deferred.ofValue (ρ (.tmp j)) (args.map ρ)>>=λd=>invoke d.target d.args):=rfl;rw[e0,hτ];rcases hS y hy with h3|⟨fs,cs,h3,h4⟩
    .rw[<-alE,h3];exact⟨sG _,trivial⟩
    .rw[<-alE,h3];exact zS hF (anE:=fs++args.map ρ++cs) h2.1 az
   |_=>cases ho.2
 all_goals cases ho.2
