import Derived.Test.YtnbflnamlpodcaaGreatDoorLfG
namespace Go.Lf
def zN(P:aN){α:Type}(Q:α->Prop):Sem α->Prop
 | .pure a=>Q a
 | .load _ _ k=>∀v,zN P Q (k v)
 | .store _ _ _ k=>zN P Q k
 | .new _ k=>∀r,zN P Q (k r)
 | .shape _ k=>∀s,zN P Q (k s)
 | .freeze _ _ k=>zN P Q k
 | .frozen _ k=>∀b,zN P Q (k b)
 | .getObj _ k=>∀o,zN P Q (k o)
 | .setObj _ _ k=>zN P Q k
 | .choose _ k=>∀n,zN P Q (k n)
 | .sys _ k=>∀r,zN P Q (k r)
 | .program k=>zN P Q (k P)
 | .mark _ k=>zN P Q k
 | .halt _=>True
section
variable {P:aN}{α β:Type}
theorem sG{Q:β->Prop}:∀(s:Sem α)(f:α->Sem β),(∀a,zN P Q (f a))->zN P Q (s.bind f)
 | .pure a,_,h=>h a
 | .load _ _ k,f,h=>λv=>sG (k v) f h
 | .store _ _ _ k,f,h=>sG k f h
 | .new _ k,f,h=>λv=>sG (k v) f h
 | .shape _ k,f,h=>λv=>sG (k v) f h
 | .freeze _ _ k,f,h=>sG k f h
 | .frozen _ k,f,h=>λv=>sG (k v) f h
 | .getObj _ k,f,h=>λv=>sG (k v) f h
 | .setObj _ _ k,f,h=>sG k f h
 | .choose _ k,f,h=>λv=>sG (k v) f h
 | .sys _ k,f,h=>λv=>sG (k v) f h
 | .program k,f,h=>sG (k P) f h
 | .mark _ k,f,h=>sG k f h
 | .halt _,_,_=>trivial
theorem uG{R:α->Prop}{Q:β->Prop}:∀(s:Sem α)(f:α->Sem β),zN P R s->(∀a,R a->zN P Q (f a))->zN P Q (s.bind f)
 | .pure a,_,hs,h=>h a hs
 | .load _ _ k,f,hs,h=>λv=>uG (k v) f (hs v) h
 | .store _ _ _ k,f,hs,h=>uG k f hs h
 | .new _ k,f,hs,h=>λv=>uG (k v) f (hs v) h
 | .shape _ k,f,hs,h=>λv=>uG (k v) f (hs v) h
 | .freeze _ _ k,f,hs,h=>uG k f hs h
 | .frozen _ k,f,hs,h=>λv=>uG (k v) f (hs v) h
 | .getObj _ k,f,hs,h=>λv=>uG (k v) f (hs v) h
 | .setObj _ _ k,f,hs,h=>uG k f hs h
 | .choose _ k,f,hs,h=>λv=>uG (k v) f (hs v) h
 | .sys _ k,f,hs,h=>λv=>uG (k v) f (hs v) h
 | .program k,f,hs,h=>uG (k P) f hs h
 | .mark _ k,f,hs,h=>uG k f hs h
 | .halt _,_,_,_=>trivial
theorem uN{Q:α->Prop}:∀(s:Sem α),zN P Q s->∀(w:ah)(es:aH)(x:α)(w':ah)(rZ:aH),s.runT P w es=(.ok x w',rZ)->Q x
 | .pure a,h,w,es,x,w',rZ,hr=>by simp only[Sem.runT]at hr;cases hr;exact h
 | .load m a k,h,w,es,x,w',rZ,hr=>by
   unfold Sem.runT at hr;cases hc:w.cell? a with
   |some v=>rw[hc]at hr;exact uN (k v) (h v) _ _ _ _ _ hr
   |none=>
    rw[hc]at hr;dsimp only at hr;cases hf:w.farLoad P a (m==.atomic)with
    |ok r=>rw[hf]at hr;exact uN (k r.1) (h r.1) _ _ _ _ _ hr
    |error e=>rw[hf]at hr;cases hr
 | .store m a v k,h,w,es,x,w',rZ,hr=>by
   have key:(∀(w:ah),(Sem.store m a v k).runT P w es=match w.cell? a with
     |some _=>if w.frozen? a then(.halt (.unsupported (.unsafePointer "a write to bytes that a string shares")) w,es)else k.runT P (w.setCell a v) (es.push ⟨.cell a,true,m==Mode.atomic⟩)
     |none=>match w.farStore P a v (m==Mode.atomic)with
      | .ok (w,touched)=>k.runT P w (es++touched.toArray.map (⟨.cell ·,true,m==Mode.atomic⟩))
      | .error h=>(.halt h w,es))\/(∀(w:ah),(Sem.store m a v k).runT P w es=(.halt (.stuck "store: not the value of one cell") w,es)):=by
    cases v<;>first|exact .inr λ_=>rfl|exact .inl λ_=>rfl
   rcases key with key|key
   .rw[key]at hr;cases hc:w.cell? a with
    |some u=>
     rw[hc]at hr;dsimp only at hr;split at hr
     .cases hr
     .exact uN k h _ _ _ _ _ hr
    |none=>
     rw[hc]at hr;dsimp only at hr;cases hf:w.farStore P a v (m==.atomic)with
     |ok r=>rw[hf]at hr;exact uN k h _ _ _ _ _ hr
     |error e=>rw[hf]at hr;cases hr
   .rw[key]at hr;cases hr
 | .new o k,h,w,es,x,w',rZ,hr=>uN (k w.heap.size) (h _) _ es x w' rZ hr
 | .shape r k,h,w,es,x,w',rZ,hr=>uN (k (w.shape? r)) (h _) w es x w' rZ hr
 | .freeze a n k,h,w,es,x,w',rZ,hr=>uN k h (w.freeze a n) es x w' rZ hr
 | .frozen a k,h,w,es,x,w',rZ,hr=>uN (k (w.frozen? a)) (h _) w es x w' rZ hr
 | .getObj r k,h,w,es,x,w',rZ,hr=>by
   unfold Sem.runT at hr;split at hr
   .cases hr
   .exact uN (k _) (h _) _ _ _ _ _ hr
   .cases hr
 | .setObj r o k,h,w,es,x,w',rZ,hr=>by
   unfold Sem.runT at hr;split at hr
   .cases hr
   .exact uN k h _ _ _ _ _ hr
   .cases hr
 | .choose q k,h,w,es,x,w',rZ,hr=>by
   unfold Sem.runT at hr;split at hr
   .exact uN (k 0) (h _) _ _ _ _ _ hr
   .exact uN (k _) (h _) _ _ _ _ _ hr
 | .sys c k,h,w,es,x,w',rZ,hr=>uN (k (w.sys c).1) (h _) (w.sys c).2 _ x w' rZ hr
 | .program k,h,w,es,x,w',rZ,hr=>uN (k P) h w es x w' rZ hr
 | .mark m k,h,w,es,x,w',rZ,hr=>uN k h w _ x w' rZ hr
 | .halt _,_,_,_,_,_,_,hr=>awj
theorem SL{f:α->Sem β}(h:∀a,Plain P (f a)):∀l:List α,Plain P (l.mapM f)
 |[]=>trivial
 |a::l=>by rw[List.mapM_cons];exact qp (h a) λb=>qp (SL h l) λbs=>qo _
theorem VH{f:α->Sem β}(h:∀a,Plain P (f a))(l:Array α):Plain P (l.mapM f):=by rw[Array.mapM_eq_mapM_toList];exact QQ (SL h _)
end
def isInt(P:aN)(t:aF):Bool:=match P.underlying t with|some (.int _)=>true|_=>false
theorem VI{P:aN}{t:aF}(h:isInt P t=true):∃k,P.underlying t=some (.int k):=by
 unfold isInt at h;split at h
 .exact⟨_,iy⟩
 .cases h
def Uy(P:aN)(s d:aF):Bool:=match P.underlying s,P.underlying d with
 |some (.slice e),some .string=>(match P.underlying e with|some (.int .u8)=>true|_=>false)
 |_,_=>false
theorem aag{P:aN}{s d:aF}(h:Uy P s d=true):∃e,P.underlying s=some (.slice e)/\P.underlying d=some .string/\P.underlying e=some (.int .u8):=by
 unfold Uy at h;split at h
 .rename_i e h1 h2;split at h
  .exact⟨e,h1,h2,iy⟩
  .cases h
 .cases h
def isStr(P:aN)(s d:aF):Bool:=match P.underlying s,P.underlying d with
 |some .string,some (.slice e)=>(match P.underlying e with|some (.int .u8)=>true|_=>false)
 |_,_=>false
theorem ad_{P:aN}{s d:aF}(h:isStr P s d=true):∃e,P.underlying s=some .string/\P.underlying d=some (.slice e)/\P.underlying e=some (.int .u8):=by
 unfold isStr at h;split at h
 .rename_i e h1 h2;split at h
  .exact⟨e,h1,h2,iy⟩
  .cases h
 .cases h
def YI:Builtin->Bool
 | .len| .cap| .append| .copy| .min| .max=>true
 |_=>false
def arity(P:aN)(f:aU):Nat:=match P.funcs[f]? with
 |some fn=>fn.params.size+fn.nfree
 |none=>0
abbrev Z7:=List (Nat×aU×Nat)
def SN(S:Z7)(x:aU×Nat):Op->Bool
 | .makeFunc (.func g) first cap=>g==x.1&&first.size+cap.size==x.2
 | .move (.tmp j)=>S.contains (j,x)
 | .assign (.tmp j)=>S.contains (j,x)
 |_=>false
def arX(S:Z7)(o:Oper):Bool:=S.all λx=>if o.dst==some x.1 then SN S x.2 o.op else true
def aea(P:aN)(F:aU->Bool)(n:Nat)(name:String):Bool:=P.types.all λi=>i.methods.all λm=>m.name != name||match m.func with
 |none=>true
 |some (f,_)=>F f&&decide (n<=arity P f)
def FY(P:aN)(F:aU->Bool)(S:Z7)(o:Oper):Bool:=
 arX S o&&match o.op with
 | .move _| .assign _| .pick ..| .alloc _| .box ..| .build ..| .buildSlice ..| .load ..| .store ..| .nilCheck _| .unOp ..| .makeSlice ..| .makeFunc ..| .slice ..| .fieldAddr ..| .field ..| .indexAddr ..| .index ..| .extract ..| .binOp ..| .typeAssert ..| .makeInterface ..| .panic _=>true
 | .convert s d _=>(isInt P s&&isInt P d)||Uy P s d||isStr P s d
 | .call c=>match c.callee with
   | .builtin b=>YI b
   | .value (.func f)=>F f&&decide (c.args.size<=arity P f)
   | .value (.tmp j)=>S.any (λx=>x.1==j)&&S.all λx=>if x.1==j then F x.2.1&&decide (x.2.2+c.args.size<=arity P x.2.1)else true
   | .invoke _ name=>aea P F (1+c.args.size) name
   |_=>false
 |_=>false
def uD(P:aN)(F:aU->Bool)(S:Z7):Code->Bool
 | .skip| .ret| .exit _=>true
 | .seq a b=>uD P F S a&&uD P F S b
 | .cond _ a b=>uD P F S a&&uD P F S b
 | .block _ c=>uD P F S c
 | .loop c=>uD P F S c
 | .region _ ops _=>ops.all (FY P F S)
 |_=>false
abbrev alW(P:aN)(F:aU->Bool)(o:Oper):Bool:=FY P F [] o
abbrev Hz(P:aN)(F:aU->Bool)(c:Code):Bool:=uD P F [] c
def JC(P:aN)(F:aU->Bool)(f:aU):Prop:=∃fn c S,P.funcs[f]?=some fn/\(fn.name== "runtime.NumGoroutine")=false/\fn.body=some c/\uD P F S c=true/\∀x∈S,arity P f<=x.1
def Ph(P:aN)(f:aU):Prop:=∃fn,P.funcs[f]?=some fn/\(fn.name== "runtime.NumGoroutine")=false/\fn.body=none/\Extern.findNext fn=none/\∀e,Extern.find fn=some e->∀avg,qI P (e avg)
def xY(P:aN)(F:aU->Bool):Prop:=∀f,F f=true->JC P F f\/Ph P f
def afI(P:aN)(f:aU):Bool:=(P.funcs[f]?).any (·.body.isSome)
theorem xY.body{P:aN}{F:aU->Bool}(h:xY P F){f:aU}(hf:F f=true)(hb:afI P f=true):JC P F f:=by
 rcases h f hf with h1|⟨fn,h1,_,h3,_⟩
 .exact h1
 .unfold afI at hb;rw[h1]at hb;simp[h3]at hb
def Yld(P:aN)(F:aU->Bool)(x:Next):Prop:=(∃v,x=.value v)\/x=.skip\/∃f avg,JC P F f/\avg.size<=arity P f/\x=.enter f avg
section
variable {P:aN}{F:aU->Bool}
theorem CW(hF:xY P F){f:aU}(hf:F f=true){avg:aB}(ha:avg.size<=arity P f):qI P (callFunc f avg)/\zN P (Yld P F) (callFunc f avg):=by
 rcases hF f hf with⟨fn,c,S,h1,h2,h3,h4,h5⟩|⟨fn,h1,h2,h3,h4,h6⟩
 .have hne:fn.body.isNone=false:=by rw[h3];rfl
  have key:∀(Q:Sem Next->Prop),Q (pure (.enter f avg))->Q ((λp:aN=>match p.funcs[f]? with
   |none=>stuck "call: no such function"
   |some fn=>if fn.name== "runtime.NumGoroutine" then pure .numGoroutine
    else if fn.body.isNone then(do
     mark (.extern f)
     if let some e:=Extern.findNext fn then return<-e avg
     match Extern.find fn with
     |some e=>pure (.value (<-e avg))
     |none=>
      if fn.name.endsWith ".init" &&!fn.name.startsWith "(" &&!fn.name.startsWith "gosem." then pure (.value (.tuple #[]))
      else unsupported (.extern fn.name))
    else pure (.enter f avg):aN->Sem Next) P):=λQ hQ=>by
   dsimp only;rw[h1];dsimp only;rw[h2,hne];exact hQ
  refine⟨qI.of (key (Plain P) (qo _)),key (zN P (Yld P F)) (.inr (.inr ⟨f,avg,⟨fn,c,S,h1,h2,h3,h4,h5⟩,ha,rfl⟩))⟩
 .have hne:fn.body.isNone=true:=by rw[h3];rfl
  have hm:qI P (mark (.extern f)):=qI.of ⟨.inr ⟨f,rfl⟩,trivial⟩;cases h5:Extern.find fn with
  |some x=>
   have key:∀(Q:Sem Next->Prop),Q (mark (.extern f)>>=λ_=>(do pure (.value (<-x avg))))->Q ((λp:aN=>match p.funcs[f]? with
    |none=>stuck "call: no such function"
    |some fn=>if fn.name== "runtime.NumGoroutine" then pure .numGoroutine
     else if fn.body.isNone then(do
      mark (.extern f)
      if let some e:=Extern.findNext fn then return<-e avg
      match Extern.find fn with
      |some e=>pure (.value (<-e avg))
      |none=>
       if fn.name.endsWith ".init" &&!fn.name.startsWith "(" &&!fn.name.startsWith "gosem." then pure (.value (.tuple #[]))
       else unsupported (.extern fn.name))
     else pure (.enter f avg):aN->Sem Next) P):=λQ hQ=>by
    exact azR
   have h8:qI P (mark (.extern f)>>=λ_=>(do pure (Next.value (<-x avg)):Sem Next)):=qI.bind hm λ_=>qI.bind (h6 x h5 avg) λ_=>rP _
   have h9:zN P (Yld P F) (mark (.extern f)>>=λ_=>(do pure (Next.value (<-x avg)):Sem Next)):=sG (mark (.extern f)) _ λ_=>sG (x avg) _ λv=>.inl ⟨v,rfl⟩
   exact⟨Q4 (key (λs=>qI P s) h8),key (zN P (Yld P F)) h9⟩
  |none=>
   have key:∀(Q:Sem Next->Prop),Q (mark (.extern f)>>=λ_=>(if(fn.name.endsWith ".init" &&!fn.name.startsWith "(" &&!fn.name.startsWith "gosem.")=true then pure (.value (.tuple #[]))else unsupported (.extern fn.name)))->Q ((λp:aN=>match p.funcs[f]? with
    |none=>stuck "call: no such function"
    |some fn=>if fn.name== "runtime.NumGoroutine" then pure .numGoroutine
     else if fn.body.isNone then(do
      mark (.extern f)
      if let some e:=Extern.findNext fn then return<-e avg
      match Extern.find fn with
      |some e=>pure (.value (<-e avg))
      |none=>
       if fn.name.endsWith ".init" &&!fn.name.startsWith "(" &&!fn.name.startsWith "gosem." then pure (.value (.tuple #[]))
       else unsupported (.extern fn.name))
     else pure (.enter f avg):aN->Sem Next) P):=λQ hQ=>by
    exact azR
   refine⟨Q4 (key (λs=>qI P s) (qI.bind hm λ_=>qI.ite (rP _) (wR trivial))),key (zN P (Yld P F)) (sG (mark (.extern f)) _ λ_=>?_)⟩;split
   .exact .inl ⟨_,rfl⟩
   .exact trivial
end
attribute [local irreducible] Plain
section
variable {P:aN}{F:aU->Bool}
theorem acd(t:aF)(ps:Array (Nat×ai)):Plain P (Instr.build t ps):=by
 unfold Instr.build
 (repeat'(first|with_reducible(first|exact qo _|exact qw _|exact wG _|exact qG _|exact tH _|exact VH (λ_=>qp (tH _) λ_=>qo _) _|(refine qp ?_ (λ_=>?_)))|split))
theorem aeb{s d:aF}{k k':IntKind}(hs:P.underlying s=some (.int k))(hd:P.underlying d=some (.int k'))(x:ai):Plain P (convert s d x):=by
 unfold convert;refine Dh hs (Dh hd ?_);have h1:∀k n,Plain P (Conv.intToInt k n):=λk n=>by unfold Conv.intToInt;(repeat'(with_reducible exact qo _))
 have h2:∀a b k,Plain P (Conv.floatToInt a b k):=λa b k=>by unfold Conv.floatToInt;(repeat'(first|with_reducible(first|exact qo _|exact vw _|(refine qp ?_ (λ_=>?_))|(refine qO ?_ ?_))|split))
 split<;>first|contradiction|(repeat'(first|((with_reducible refine rX ?_);exact trivial)|with_reducible(first|exact h1 _ _|exact h2 _ _ _)))
theorem SQ{γ σ:Type}{f:γ->σ->Sem (ForInStep σ)}(h:∀a s,Plain P (f a s)):∀(l:List γ)(s:σ),Plain P (forIn l s f)
 |[],s=>by rw[List.forIn_nil];exact qo _
 |a::l,s=>by
  rw[List.forIn_cons];refine qp (h a s) λr=>?_
  cases r with
  |done b=>exact qo _
  |yield b=>exact SQ h l b
theorem Xw(x:ai):Plain P (Conv.bytesToString x):=by
 unfold Conv.bytesToString;split
 .exact qo _
 .refine qp (DL _ _) λcs=>qp ?_ λ_=>qo _
  rw[<-Array.forIn_toList];refine SQ (λc s=>?_) _ _
  (repeat'(first|with_reducible(first|exact qo _|exact qw _|(refine qp ?_ (λ_=>?_)))|split))
 ·(repeat'(with_reducible exact qw _))
theorem ace{s d e:aF}(hs:P.underlying s=some (.slice e))(hd:P.underlying d=some .string)(he:P.underlying e=some (.int .u8))(x:ai):Plain P (convert s d x):=by
 unfold convert;refine Dh hs (Dh hd ?_);have h1:∀n,Plain P (Conv.intToString n):=λn=>by unfold Conv.intToString;(repeat'(with_reducible exact qo _))
 have h2:Plain P (underlying e>>=λu=>match u with| .int .u8=>Conv.bytesToString x| .int .i32=>Conv.runesToString x|_=>stuck "Convert: a slice of what to string?"):=Dh he (Xw x);split
 all_goals first
  |contradiction
  |exact qo _
  |exact h1 _
  |(rename_i hh _ _ _;cases hh;exact h2)
  |trivial
  |(repeat'((with_reducible refine rX ?_);exact trivial))
theorem qI.congr{α:Type}{s s':Sem α}(h:∀w es,s.runT P w es=s'.runT P w es)(h':qI P s'):qI P s:=
 ⟨λw v es x v' rZ hs hr=>by rw[h]at hr⊢;exact h'.WM w v es x v' rZ hs hr,λv es x v' rZ hn hr=>by rw[h]at hr;obtain⟨a,b,c⟩:=h'.tape v es x v' rZ hn hr;exact⟨a,b,λτ hτ=>by rw[h];exact c τ hτ⟩,λw v es x v' rZ hs hr=>by rw[h]at hr;exact h'.Tu w v es x v' rZ hs hr⟩
theorem ahn(w:ah)(cs:aB)(t:aF):({w with heap:=w.heap.push (.cells cs t)}:ah).freeze ⟨w.heap.size,cs.size,none⟩ 1={w with heap:=w.heap.push (.cells cs t (cs.size,cs.size+1))}:=by
 unfold World.freeze;rw[au aC]
 congr 1
 apply Array.ext
 .simp
 .intro i h1 h2;rw[Array.getElem_modify];have hi:i<w.heap.size+1:=jI;by_cases e:w.heap.size=i
  .subst e;simp
  .rw[au e,axb ag,axb ag]
theorem aah(t:aF)(s:ByteArray):qI P (Conv.stringToBytes t s):=by
 unfold Conv.stringToBytes;refine qI.bind (Di _) λcap=>?_
 dsimp only;generalize(s.data.map λ(b:UInt8)=>Value.int .u8 b.toNat)++Array.replicate (cap-s.size) (Value.int .u8 0)=cs;refine qI.congr (s':=newObj (.cells cs t (cs.size,cs.size+1))>>=λb=>pure (.slice (some ⟨b,0,none⟩) s.size cap)) (λw es=>?_) (qI.of (qp (LH trivial) λ_=>qo _));have hg:({w with heap:=w.heap.push (.cells cs t)}:ah).shape? w.heap.size=some (t,cs.size):=by simp[World.shape?]
 show((markStringish ⟨w.heap.size,0,none⟩).bind λ_=>Sem.pure (Value.slice (some ⟨w.heap.size,0,none⟩) s.size cap)).runT P {w with heap:=w.heap.push (.cells cs t)} es=_;unfold markStringish;simp only[shape,freeze,bind,Sem.bind,Sem.runT,hg,pure];rw[ahn];rfl
theorem aec{s d e:aF}(hs:P.underlying s=some .string)(hd:P.underlying d=some (.slice e))(he:P.underlying e=some (.int .u8))(x:ai):qI P (convert s d x):=by
 have key:∀(k:TypeDesc->Sem ai)(t:aF)(u:TypeDesc),P.underlying t=some u->qI P (k u)->qI P (underlying t>>=k):=λk t u ht hk=>by refine qI.congr (s':=k u) (λw es=>?_) hk;show((match P.underlying t with|some d=>pure d|none=>stuck "no such type" :Sem TypeDesc).bind k).runT P w es=_;rw[ht];rfl
 unfold convert;refine key _ s _ hs (key _ d _ hd ?_);cases x
 case string b=>exact key _ e _ he (aah e b)
 case slice a n c=>cases a<;>exact wR (u:=.noEntry "convert/other") trivial
 case pointer a=>cases a<;>exact wR (u:=.noEntry "convert/other") trivial
 all_goals exact wR (u:=.noEntry "convert/other") trivial
theorem aed(x y:ai):Plain P (Builtin.min2 x y):=by unfold Builtin.min2;split<;>(repeat'(first|with_reducible(first|exact qo _|exact qw _)|((with_reducible refine rX ?_);exact trivial)|with_reducible(first|exact vw _|exact E_ _ _ _|exact Ed _|(refine qp ?_ (λ_=>?_)))|split))
theorem M_:∀(l:aK)(x:ai),Plain P (l.foldlM Builtin.min2 x)
 |[],x=>by rw[List.foldlM_nil];exact qo _
 |y::l,x=>by rw[List.foldlM_cons];exact qp (aed x y) λr=>M_ l r
theorem aho(ts:Array aF)(t:aF)(avg:aB):Plain P (Builtin.min_ ts t avg):=by
 unfold Builtin.min_;split
 ·(repeat'(with_reducible exact qw _))
 .exact M_ _ _
theorem FZ:∀(path:List FieldStep)(t:aF)(x:Option ai),Plain P (followBlind path t x)
 |[],_,_=>qo _
 |s::rest,_,_=>by
  unfold followBlind;have ih:=FZ rest
  (repeat'(first|with_reducible(first|exact qo _|exact qw _|exact qG _|exact yR _ _ _|exact ih _ _|(refine qp ?_ (λ_=>?_)))|split))
theorem J8:∀(n:Nat)(t:aF)(v:ai)(name:String),Plain P (nilAhead n t v name)
 |0,_,_,_=>qo _
 |n+1,t,v,name=>by
  unfold nilAhead;have ih:=J8 n
  (repeat'(first|with_reducible(first|exact qo _|exact qw _|exact rV _|exact qG _|exact FZ _ _ _|exact ih _ _ _|(refine qp ?_ (λ_=>?_)))|split))
theorem acf{Q:Next->Prop}:zN P Q (runtimePanic .nilDeref:Sem Next):=by unfold runtimePanic;exact sG program _ λp=>trivial
theorem tJ{s:Sem ai}:zN P (Yld P F) (do pure (.value (<-s))):=sG s _ λa=>.inl ⟨a,rfl⟩
theorem ahp{s:Sem Unit}:zN P (Yld P F) (do s;pure .skip):=sG s _ λ_=>.inr (.inl rfl)
theorem aai(info:aF->Option TypeInfo)(d:TypeDesc)(i:TypeInfo)(h:Made.reckon info d=some i):i.methods=#[]:=by
 have hs:∀fs,Made.reckonStruct info fs=some i->i.methods=#[]:=λfs h=>by unfold Made.reckonStruct at h;simp only[oL,lK,avO]at h;obtain⟨r,_,h⟩:=h;split at h<;>(cases h;rfl)
 unfold Made.reckon at h;split at h
 case h_7=>exact hs _ h
 case h_1=>
  simp only[oL,lK,avO]at h;obtain⟨r,_,h⟩:=h;split at h
  .cases h
  .split at h
   .cases h
   .obtain⟨_,_,h⟩:=lK.1 h;cases h;rfl
  .obtain⟨_,_,h⟩:=lK.1 h;cases h;rfl
 all_goals first
  |cases h
  |(simp only[oL,lK,avO]at h
    repeat (obtain⟨_,_,h⟩:=h)
    first|rfl|(cases h;rfl))
theorem aaj{t:aF}{i:TypeInfo}(h:P.info? t=some i):i∈P.types\/i.methods=#[]:=by
 have key:∀n,Made.infoAt P.toTables n t=some i->i∈P.types\/i.methods=#[]:=λn hn=>by
  cases n with
  |zero=>cases hn
  |succ n=>
   unfold Made.infoAt at hn;split at hn
   .exact .inl (fZ hn)
   .obtain⟨d,_,hd⟩:=lK.1 hn;exact .inr (aai _ _ _ hd)
 unfold Tables.info? at h;split at h
 .exact .inl (fZ h)
 .exact key _ h
theorem qI.arY{α β:Type}{R:α->Prop}{s:Sem α}{f:α->Sem β}(h:qI P s)(hl:zN P R s)(h':∀a,R a->qI P (f a)):qI P (s>>=f):=by
 have e:∀w es,(s>>=f).runT P w es=match s.runT P w es with
   |(.ok a w',rZ)=>(f a).runT P w' rZ
   |(.halt x w',rZ)=>(.halt x w',rZ):=λw es=>Go.Sem.runT_bind' P s f w es
 have key:∀a v es v1 MC,s.runT P v es=(.ok a v1,MC)->qI P (f a):=λa v es v1 MC hr=>h' a (uN s hl v es a v1 MC hr)
 refine⟨λw v es x v' rZ hs hr=>?_,λv es x v' rZ hn hr=>?_,λw v es x v' rZ hs hr=>?_⟩
 .rw[e]at hr;cases xK:s.runT P v es with
  |mk r MC=>
   rw[xK]at hr;cases r with
   |halt y v1=>cases hr
   |ok a v1=>
    obtain⟨w1,h1,h2,h3,h4⟩:=h.WM w v es a v1 MC hs xK;obtain⟨w2,g1,g2,g3,g4⟩:=(key _ _ _ _ _ xK).WM w1 v1 MC x v' rZ h2 hr;refine⟨w2,by rw[e,h1];exact g1,g2,ag,λev hev=>?_⟩;rcases g4 ev hev with g5|g5
    .rcases h4 ev g5 with g6|g6
     .exact .inl g6
     .exact .inr (g6.grow axC)
    .exact .inr g5
 .rw[e]at hr;cases xK:s.runT P v es with
  |mk r MC=>
   rw[xK]at hr;cases r with
   |halt y v1=>cases hr
   |ok a v1=>
    obtain⟨h1,h2,h3⟩:=h.tape v es a v1 MC hn xK;obtain⟨w1,_,yE,_,_⟩:=h.WM v v es a v1 MC (xZ.self hn) xK;obtain⟨g1,g2,g3⟩:=(key _ _ _ _ _ xK).tape v1 MC x v' rZ yE.nv hr;exact azV
 .rw[e]at hr;cases xK:s.runT P v es with
  |mk r MC=>
   rw[xK]at hr;cases r with
   |halt y v1=>
    cases hr;exact h.Tu w v es x v' rZ hs xK
   |ok a v1=>
    obtain⟨w1,_,h2,_,_⟩:=h.WM w v es a v1 MC hs xK;exact(key _ _ _ _ _ xK).Tu w1 v1 MC x v' rZ h2 hr
theorem Xx(t:aF):zN P (λi=>P.info? t=some i) (typeInfo t):=by
 unfold typeInfo;show zN P (λi=>P.info? t=some i) (match P.info? t with|some i=>pure i|none=>_);cases h:P.info? t with
 |some i=>exact rfl
 |none=>trivial
theorem J9{n:Nat}{name:String}(h:aea P F n name=true):∀(fuel:Nat)(t:aF)(v:ai),zN P (λr=>F r.1=true/\n<=arity P r.1) (method fuel t v name)
 |0,_,_=>trivial
 |fuel+1,t,v=>by
  have ih:=J9 h fuel;unfold method;refine uG (typeInfo t) _ (Xx t) λi hi=>?_
  cases hm:i.methods.find? (·.name==name)with
  |none=>trivial
  |some m=>
   have h1:=Array.mem_of_find?_eq_some hm;have h2:(m.name==name)=true:=by simpa using Array.find?_some hm
   refine sG (follow _ _ _) _ λr=>?_
   obtain⟨xt,x⟩:=r;dsimp only;cases hf:m.func with
   |none=>
    refine sG (x.get xt) _ λu=>?_
    cases u<;>first
     |exact ih _ _
     |trivial
     |(unfold runtimePanic;exact sG program _ λp=>trivial)
   |some q=>
    obtain⟨f,pr⟩:=q;refine sG (receiverAt _ _ _ _) _ λu=>?_
    rcases aaj hi with h3|h3
    .have h4:=mr.1 h i h3;have h5:=mr.1 h4 m h1;rw[hf]at h5;simp only[bne,h2,jm,kU,gW,iP]at h5;exact h5
    .rw[h3]at h1;simp at h1
theorem aee(x:ai):qI P (Instr.panic x):=by
 have key:∀(v:ah)(es:aH),(∀(b:Nat)(o:Obj),v.heap[b]?=some o->wX o)->∃h v' rZ,(Instr.panic x).runT P v es=(.halt h v',rZ)/\Gs h:=λv es hn=>by
  cases x<;>first
   |exact⟨_,_,_,rfl,trivial⟩
   |skip
  have e2:∃(n:Bool)(es2:aH),(Instr.panic .nilIface).runT P v es=(if n=true then goPanic .nilIface else runtimePanic .panicNil:Sem ai).runT P v es2:=⟨_,_,rfl⟩;obtain⟨n,es2,e2⟩:=e2;rw[e2];cases n with
  |true=>exact⟨_,_,_,rfl,trivial⟩
  |false=>
   simp only[dC,bQ]
   have hd:qW P (runtimePanic .panicNil:Sem ai):=by unfold runtimePanic;exact qW.late program _ λp=>qW.late (elemOf _) _ λ_=>qW.late (newVar _ _) _ λ_=>trivial
   obtain⟨h,v',rZ,h1⟩:=sK _ hd v es2;exact⟨h,v',rZ,h1,uJ _ v v es2 h v' rZ (rD _) (xZ.self hn) h1⟩
 refine⟨λw v es x v' rZ hs hr=>?_,λv es x v' rZ hn hr=>?_,λw v es x v' rZ hs hr=>?_⟩
 .obtain⟨h,v1,MC,h1,_⟩:=key v es hs.nv;rw[h1]at hr;cases hr
 .obtain⟨h,v1,MC,h1,_⟩:=key v es hn;rw[h1]at hr;cases hr
 .obtain⟨h,v1,MC,h1,h2⟩:=key v es hs.nv;rw[h1]at hr;cases hr;exact h2
def GM(S:Z7)(tmps:aB):Prop:=∀x∈S,tmps.getD x.1 undef=undef\/∃fs cs,tmps.getD x.1 undef=.func (.func x.2.1) fs cs/\fs.size+cs.size=x.2.2
theorem Zn(hF:xY P F){S:Z7}{tmps:aB}{ρ:Operand->ai}(hρ:∀f,ρ (.func f)=.func (.func f) #[] #[])(hτ:∀j,ρ (.tmp j)=tmps.getD j undef)(hS:GM S tmps){o:Oper}(ho:FY P F S o=true):
  qI P (execOp ρ o)/\zN P (Yld P F) (execOp ρ o):=by
 obtain⟨dst,op,ty,pos,after,guard⟩:=o;have V:∀{s:Sem ai},Plain P s->qI P (do pure (Next.value (<-s)):Sem Next):=λh=>qI.of (qp h λ_=>qo _)
 have VO:∀{s:Sem ai},qI P s->qI P (do pure (Next.value (<-s)):Sem Next):=λh=>qI.bind h λ_=>rP _
 have U:∀{s:Sem Unit},Plain P s->qI P (do s;pure Next.skip:Sem Next):=λh=>qI.of (qp h λ_=>qo _)
 unfold FY at ho;rw[gW]at ho;cases op
 case move=>exact⟨rP _,.inl ⟨_,rfl⟩⟩
 case assign=>exact⟨rP _,.inl ⟨_,rfl⟩⟩
 case pick c a b=>exact⟨qI.of (qp (Ed _) λ_=>qo _),sG (asBool _) _ λ_=>.inl ⟨_,rfl⟩⟩
 case alloc=>exact⟨V (ab7 _ _ _),tJ⟩
 case box=>exact⟨V (ahk _ _),tJ⟩
 case build=>exact⟨V (acd _ _),tJ⟩
 case buildSlice=>exact⟨V (Q3 _ _ _),tJ⟩
 case load=>exact⟨V (aae _ _),tJ⟩
 case store=>exact⟨U (Xq _ _ _),ahp⟩
 case nilCheck x=>
  have e:execOp ρ ⟨dst,.nilCheck x,ty,pos,after,guard⟩=(match ρ x with
   | .pointer none| .nilIface| .nilFunc=>runtimePanic .nilDeref
   | .func (.method name) first captured=>
     match(first[0]?:Option ai)with
     |some .nilIface=>runtimePanic .nilDeref
     |some (.iface t w)=>do
      if(<-nilAhead ((<-program).types.size+Made.depth) t w name) != some false then
       unsupported (.noEntry "op/nilCheck.the method's receiver behind this interface value is a nil pointer, or cannot be seen to be none, and the arguments act or may panic (ledger 612)")
      pure (.value (.func (.method name) first captured))
     |_=>pure (.value (.func (.method name) first captured))
   |x=>pure (.value x)):=rfl
  rw[e];have np:qI P (runtimePanic .nilDeref:Sem Next):=qI.of (rD _);have nl:zN P (Yld P F) (runtimePanic .nilDeref:Sem Next):=acf;split
  .exact⟨np,nl⟩
  .exact⟨np,nl⟩
  .exact⟨np,nl⟩
  .split
   .exact⟨np,nl⟩
   .constructor
    .refine qI.of ?_
     (repeat'(first|with_reducible exact qo _|((with_reducible refine rX ?_);exact trivial)|with_reducible(first|exact sD|exact J8 _ _ _ _|(refine qp ?_ (λ_=>?_))|(refine qO ?_ ?_))))
    .refine sG program _ λ_=>sG (nilAhead _ _ _ _) _ λr=>?_
     split
     .exact sG (unsupported _) _ λ_=>Or.inl ⟨_,rfl⟩
     .exact Or.inl ⟨_,rfl⟩
   .exact⟨rP _,.inl ⟨_,rfl⟩⟩
  .exact⟨rP _,.inl ⟨_,rfl⟩⟩
 case unOp=>exact⟨V (ab9 _ _),tJ⟩
 case makeSlice=>exact⟨V (TU _ _ _),tJ⟩
 case makeFunc=>exact⟨V (qo _),tJ⟩
 case slice=>exact⟨V (Xt _ _ _ _ _),tJ⟩
 case fieldAddr=>exact⟨V (Xv _ _ _),tJ⟩
 case field=>exact⟨V (aca _ _ _),tJ⟩
 case indexAddr=>exact⟨V (Xr _ _ _),tJ⟩
 case index=>exact⟨V (acb _ _ _),tJ⟩
 case extract=>exact⟨V (Xu _ _),tJ⟩
 case binOp op t x y t'=>exact⟨VO (qI.bind (aef _ _ _ _ _ _) λ_=>aeg _ _ _ _),tJ⟩
 case typeAssert=>exact⟨VO (TV _ _ _ _),tJ⟩
 case makeInterface=>exact⟨VO (NY _ _),tJ⟩
 case panic=>exact⟨VO (aee _),tJ⟩
 case convert s d x=>
  have h1:((isInt P s&&isInt P d)||Uy P s d||isStr P s d)=true:=ho.2;rw[l_,l_,gW]at h1;rcases h1 with(h1|h1)|h1
  .obtain⟨k,hk⟩:=VI h1.1;obtain⟨k',WA⟩:=VI h1.2;exact⟨V (aeb hk WA _),tJ⟩
  .obtain⟨e,h2,h3,h4⟩:=aag h1;exact⟨V (ace h2 h3 h4 _),tJ⟩
  .obtain⟨e,h2,h3,h4⟩:=ad_ h1;exact⟨VO (aec h2 h3 h4 _),tJ⟩
 case call c=>
  obtain⟨callee,args,ats⟩:=c;cases callee with
  |builtin b=>
   have h1:YI b=true:=ho.2;cases b
   case len=>exact⟨V (ahl _ _ _),tJ⟩
   case cap=>exact⟨V (ahm _ _ _),tJ⟩
   case append=>exact⟨V (aak _ _ _),tJ⟩
   case copy=>exact⟨V (ad9 _ _ _),tJ⟩
   case min=>exact⟨V (aho _ _ _),tJ⟩
   case max=>exact⟨VO (akx _ _ _),tJ⟩
   all_goals cases h1
  |invoke recv name=>
   have h1:aea P F (1+args.size) name=true:=ho.2
   have e:execOp ρ ⟨dst,.call ⟨.invoke recv name,args,ats⟩,ty,pos,after,guard⟩=callMethod (ρ recv) name ((#[ρ recv]++args.map ρ).extract 1 (#[ρ recv]++args.map ρ).size):=by
    have h0:(#[ρ recv]++args.map ρ)[0]?=some (ρ recv):=(Array.getElem?_append_left (Nat.zero_lt_one)).trans rfl
    show(match(#[ρ recv]++args.map ρ)[0]? with
     |some r=>callMethod r name ((#[ρ recv]++args.map ρ).extract 1 (#[ρ recv]++args.map ρ).size)
     |_=>stuck "call: a method without a receiver")=_
    rw[h0]
   rw[e];unfold callMethod;have hsz:((#[ρ recv]++args.map ρ).extract 1 (#[ρ recv]++args.map ρ).size).size=args.size:=ax;generalize(#[ρ recv]++args.map ρ).extract 1 (#[ρ recv]++args.map ρ).size=avg at hsz;cases ρ recv with
   |iface t v=>
    dsimp only;refine⟨Q4 (qI.arY (SS _ _ _ _) (J9 h1 _ _ _) λr hr=>(CW hF (avg:=#[r.2]++avg) hr.1 aS).1),sG program _ λp=>uG (method _ _ _ _) _ (J9 h1 _ _ _) λr hr=>(CW hF (avg:=#[r.2]++avg) hr.1 aS).2⟩
   |nilIface=>exact⟨qI.of (rD _),acf⟩
   |_=>exact⟨uk _,trivial⟩
  |value x=>
   cases x with
   |func f=>
    have hf:(F f&&decide (args.size<=arity P f))=true:=ho.2;rw[gW,iP]at hf
    have e:execOp ρ ⟨dst,.call ⟨.value (.func f),args,ats⟩,ty,pos,after,guard⟩=callFunc f (#[]++args.map ρ++#[]):=by show(Deferred.ofValue (ρ (.func f)) (args.map ρ)>>=λd=>invoke d.target d.args)=_;rw[hρ];rfl
    rw[e];exact CW hF (avg:=#[]++args.map ρ++#[]) hf.1 (by simpa using hf.2)
   |tmp j=>
    have hj:(S.any (λx=>x.1==j)&&S.all λx=>if x.1==j then F x.2.1&&decide (x.2.2+args.size<=arity P x.2.1)else true)=true:=ho.2;rw[gW]at hj;obtain⟨y,hy,hyj⟩:=List.any_eq_true.1 hj.1;have arZ:y.1=j:=by simpa using hyj
    have h2:=jF.1 hj.2 y hy;rw[ay hyj,gW,iP]at h2;have e0:execOp ρ ⟨dst,.call ⟨.value (.tmp j),args,ats⟩,ty,pos,after,guard⟩=(Deferred.ofValue (ρ (.tmp j)) (args.map ρ)>>=λd=>invoke d.target d.args):=rfl;rw[e0,hτ];rcases hS y hy with h3|⟨fs,cs,h3,h4⟩
    .rw[<-arZ,h3];exact⟨uk _,trivial⟩
    .rw[<-arZ,h3];exact CW hF (avg:=fs++args.map ρ++cs) h2.1 aS
   |_=>cases ho.2
 all_goals cases ho.2
