import Derived.Test.YtnbflnamlpodcaaGreatDoorLfG
namespace Go.Lf
def zu(P:Program){α:Type}(Q:α->Prop):Sem α->Prop
 | .pure a=>Q a
 | .load _ _ k=>∀v,zu P Q (k v)
 | .store _ _ _ k=>zu P Q k
 | .new _ k=>∀r,zu P Q (k r)
 | .shape _ k=>∀s,zu P Q (k s)
 | .freeze _ _ k=>zu P Q k
 | .frozen _ k=>∀b,zu P Q (k b)
 | .getObj _ k=>∀o,zu P Q (k o)
 | .setObj _ _ k=>zu P Q k
 | .choose _ k=>∀n,zu P Q (k n)
 | .sys _ k=>∀r,zu P Q (k r)
 | .program k=>zu P Q (k P)
 | .mark _ k=>zu P Q k
 | .halt _=>True
section
variable {P:Program}{α β:Type}
theorem rU{Q:β->Prop}:∀(s:Sem α)(f:α->Sem β),(∀a,zu P Q (f a))->zu P Q (s.bind f)
 | .pure a,_,h=>h a
 | .load _ _ k,f,h=>λv=>rU (k v) f h
 | .store _ _ _ k,f,h=>rU k f h
 | .new _ k,f,h=>λv=>rU (k v) f h
 | .shape _ k,f,h=>λv=>rU (k v) f h
 | .freeze _ _ k,f,h=>rU k f h
 | .frozen _ k,f,h=>λv=>rU (k v) f h
 | .getObj _ k,f,h=>λv=>rU (k v) f h
 | .setObj _ _ k,f,h=>rU k f h
 | .choose _ k,f,h=>λv=>rU (k v) f h
 | .sys _ k,f,h=>λv=>rU (k v) f h
 | .program k,f,h=>rU (k P) f h
 | .mark _ k,f,h=>rU k f h
 | .halt _,_,_=>trivial
theorem uu{R:α->Prop}{Q:β->Prop}:∀(s:Sem α)(f:α->Sem β),zu P R s->(∀a,R a->zu P Q (f a))->zu P Q (s.bind f)
 | .pure a,_,hs,h=>h a hs
 | .load _ _ k,f,hs,h=>λv=>uu (k v) f (hs v) h
 | .store _ _ _ k,f,hs,h=>uu k f hs h
 | .new _ k,f,hs,h=>λv=>uu (k v) f (hs v) h
 | .shape _ k,f,hs,h=>λv=>uu (k v) f (hs v) h
 | .freeze _ _ k,f,hs,h=>uu k f hs h
 | .frozen _ k,f,hs,h=>λv=>uu (k v) f (hs v) h
 | .getObj _ k,f,hs,h=>λv=>uu (k v) f (hs v) h
 | .setObj _ _ k,f,hs,h=>uu k f hs h
 | .choose _ k,f,hs,h=>λv=>uu (k v) f (hs v) h
 | .sys _ k,f,hs,h=>λv=>uu (k v) f (hs v) h
 | .program k,f,hs,h=>uu (k P) f hs h
 | .mark _ k,f,hs,h=>uu k f hs h
 | .halt _,_,_,_=>trivial
theorem uD{Q:α->Prop}:∀(s:Sem α),zu P Q s->∀(w:World)(es:Array Event)(x:α)(w':World)(rJ:Array Event),s.runT P w es=(.ok x w',rJ)->Q x
 | .pure a,h,w,es,x,w',rJ,hr=>by simp only[Sem.runT]at hr;cases hr;exact h
 | .load m a k,h,w,es,x,w',rJ,hr=>by
   unfold Sem.runT at hr;cases hc:w.cell? a with
   |some v=>rw[hc]at hr;exact uD (k v) (h v) _ _ _ _ _ hr
   |none=>
    rw[hc]at hr;dsimp only at hr;cases hf:w.farLoad P a (m==.atomic)with
    |ok r=>rw[hf]at hr;exact uD (k r.1) (h r.1) _ _ _ _ _ hr
    |error e=>rw[hf]at hr;cases hr
 | .store m a v k,h,w,es,x,w',rJ,hr=>by
   have key:(∀(w:World),(Sem.store m a v k).runT P w es=match w.cell? a with
     |some _=>if w.frozen? a then(.halt (.unsupported (.unsafePointer "a write to bytes that a string shares")) w,es)else k.runT P (w.setCell a v) (es.push ⟨.cell a,true,m==Mode.atomic⟩)
     |none=>match w.farStore P a v (m==Mode.atomic)with
      | .ok (w,touched)=>k.runT P w (es++touched.toArray.map (⟨.cell ·,true,m==Mode.atomic⟩))
      | .error h=>(.halt h w,es))\/(∀(w:World),(Sem.store m a v k).runT P w es=(.halt (.stuck "store: not the value of one cell") w,es)):=by
    cases v<;>first|exact .inr λ_=>rfl|exact .inl λ_=>rfl
   rcases key with key|key
   .rw[key]at hr;cases hc:w.cell? a with
    |some u=>
     rw[hc]at hr;dsimp only at hr;split at hr
     .cases hr
     .exact uD k h _ _ _ _ _ hr
    |none=>
     rw[hc]at hr;dsimp only at hr;cases hf:w.farStore P a v (m==.atomic)with
     |ok r=>rw[hf]at hr;exact uD k h _ _ _ _ _ hr
     |error e=>rw[hf]at hr;cases hr
   .rw[key]at hr;cases hr
 | .new o k,h,w,es,x,w',rJ,hr=>uD (k w.heap.size) (h _) _ es x w' rJ hr
 | .shape r k,h,w,es,x,w',rJ,hr=>uD (k (w.shape? r)) (h _) w es x w' rJ hr
 | .freeze a n k,h,w,es,x,w',rJ,hr=>uD k h (w.freeze a n) es x w' rJ hr
 | .frozen a k,h,w,es,x,w',rJ,hr=>uD (k (w.frozen? a)) (h _) w es x w' rJ hr
 | .getObj r k,h,w,es,x,w',rJ,hr=>by
   unfold Sem.runT at hr;split at hr
   .cases hr
   .exact uD (k _) (h _) _ _ _ _ _ hr
   .cases hr
 | .setObj r o k,h,w,es,x,w',rJ,hr=>by
   unfold Sem.runT at hr;split at hr
   .cases hr
   .exact uD k h _ _ _ _ _ hr
   .cases hr
 | .choose q k,h,w,es,x,w',rJ,hr=>by
   unfold Sem.runT at hr;split at hr
   .exact uD (k 0) (h _) _ _ _ _ _ hr
   .exact uD (k _) (h _) _ _ _ _ _ hr
 | .sys c k,h,w,es,x,w',rJ,hr=>uD (k (w.sys c).1) (h _) (w.sys c).2 _ x w' rJ hr
 | .program k,h,w,es,x,w',rJ,hr=>uD (k P) h w es x w' rJ hr
 | .mark m k,h,w,es,x,w',rJ,hr=>uD k h w _ x w' rJ hr
 | .halt _,_,_,_,_,_,_,hr=>auz
theorem Rf{f:α->Sem β}(h:∀a,Plain P (f a)):∀l:List α,Plain P (l.mapM f)
 |[]=>trivial
 |a::l=>by rw[List.mapM_cons];exact qh (h a) λb=>qh (Rf h l) λbs=>qg _
theorem U5{f:α->Sem β}(h:∀a,Plain P (f a))(l:Array α):Plain P (l.mapM f):=by rw[Array.mapM_eq_mapM_toList];exact Qb (Rf h _)
end
def isInt(P:Program)(t:TypeId):Bool:=match P.underlying t with|some (.int _)=>true|_=>false
theorem U6{P:Program}{t:TypeId}(h:isInt P t=true):∃k,P.underlying t=some (.int k):=by
 unfold isInt at h;split at h
 .exact⟨_,fZ⟩
 .cases h
def TE(P:Program)(s d:TypeId):Bool:=match P.underlying s,P.underlying d with
 |some (.slice e),some .string=>(match P.underlying e with|some (.int .u8)=>true|_=>false)
 |_,_=>false
theorem Zo{P:Program}{s d:TypeId}(h:TE P s d=true):∃e,P.underlying s=some (.slice e)/\P.underlying d=some .string/\P.underlying e=some (.int .u8):=by
 unfold TE at h;split at h
 .rename_i e h1 h2;split at h
  .exact⟨e,h1,h2,fZ⟩
  .cases h
 .cases h
def isStr(P:Program)(s d:TypeId):Bool:=match P.underlying s,P.underlying d with
 |some .string,some (.slice e)=>(match P.underlying e with|some (.int .u8)=>true|_=>false)
 |_,_=>false
theorem adF{P:Program}{s d:TypeId}(h:isStr P s d=true):∃e,P.underlying s=some .string/\P.underlying d=some (.slice e)/\P.underlying e=some (.int .u8):=by
 unfold isStr at h;split at h
 .rename_i e h1 h2;split at h
  .exact⟨e,h1,h2,fZ⟩
  .cases h
 .cases h
def XZ:Builtin->Bool
 | .len| .cap| .append| .copy| .min| .max=>true
 |_=>false
def arity(P:Program)(f:FuncId):Nat:=match P.funcs[f]? with
 |some fn=>fn.params.size+fn.nfree
 |none=>0
abbrev Zi:=List (Nat×FuncId×Nat)
def Rh(S:Zi)(x:FuncId×Nat):Op->Bool
 | .makeFunc (.func g) first cap=>g==x.1&&first.size+cap.size==x.2
 | .move (.tmp j)=>S.contains (j,x)
 | .assign (.tmp j)=>S.contains (j,x)
 |_=>false
def aqO(S:Zi)(o:Oper):Bool:=S.all λx=>if o.dst==some x.1 then Rh S x.2 o.op else true
def adG(P:Program)(F:FuncId->Bool)(n:Nat)(name:String):Bool:=P.types.all λi=>i.methods.all λm=>m.name != name||match m.func with
 |none=>true
 |some (f,_)=>F f&&decide (n<=arity P f)
def E_(P:Program)(F:FuncId->Bool)(S:Zi)(o:Oper):Bool:=
 aqO S o&&match o.op with
 | .move _| .assign _| .pick ..| .alloc _| .box ..| .build ..| .buildSlice ..| .load ..| .store ..| .nilCheck _| .unOp ..| .makeSlice ..| .makeFunc ..| .slice ..| .fieldAddr ..| .field ..| .indexAddr ..| .index ..| .extract ..| .binOp ..| .typeAssert ..| .makeInterface ..| .panic _=>true
 | .convert s d _=>(isInt P s&&isInt P d)||TE P s d||isStr P s d
 | .call c=>match c.callee with
   | .builtin b=>XZ b
   | .value (.func f)=>F f&&decide (c.args.size<=arity P f)
   | .value (.tmp j)=>S.any (λx=>x.1==j)&&S.all λx=>if x.1==j then F x.2.1&&decide (x.2.2+c.args.size<=arity P x.2.1)else true
   | .invoke _ name=>adG P F (1+c.args.size) name
   |_=>false
 |_=>false
def uq(P:Program)(F:FuncId->Bool)(S:Zi):Code->Bool
 | .skip| .ret| .exit _=>true
 | .seq a b=>uq P F S a&&uq P F S b
 | .cond _ a b=>uq P F S a&&uq P F S b
 | .block _ c=>uq P F S c
 | .loop c=>uq P F S c
 | .region _ ops _=>ops.all (E_ P F S)
 |_=>false
abbrev alq(P:Program)(F:FuncId->Bool)(o:Oper):Bool:=E_ P F [] o
abbrev GR(P:Program)(F:FuncId->Bool)(c:Code):Bool:=uq P F [] c
def I_(P:Program)(F:FuncId->Bool)(f:FuncId):Prop:=∃fn c S,P.funcs[f]?=some fn/\(fn.name== "runtime.NumGoroutine")=false/\fn.body=some c/\uq P F S c=true/\∀x∈S,arity P f<=x.1
def Oy(P:Program)(f:FuncId):Prop:=∃fn,P.funcs[f]?=some fn/\(fn.name== "runtime.NumGoroutine")=false/\fn.body=none/\Extern.findNext fn=none/\∀e,Extern.find fn=some e->∀atO,qA P (e atO)
def xB(P:Program)(F:FuncId->Bool):Prop:=∀f,F f=true->I_ P F f\/Oy P f
def afb(P:Program)(f:FuncId):Bool:=(P.funcs[f]?).any (·.body.isSome)
theorem xB.body{P:Program}{F:FuncId->Bool}(h:xB P F){f:FuncId}(hf:F f=true)(hb:afb P f=true):I_ P F f:=by
 rcases h f hf with h1|⟨fn,h1,_,h3,_⟩
 .exact h1
 .unfold afb at hb;rw[h1]at hb;simp[h3]at hb
def Yld(P:Program)(F:FuncId->Bool)(x:Next):Prop:=(∃v,x=.value v)\/x=.skip\/∃f atO,I_ P F f/\atO.size<=arity P f/\x=.enter f atO
section
variable {P:Program}{F:FuncId->Bool}
theorem BL(hF:xB P F){f:FuncId}(hf:F f=true){atO:Array Value}(ha:atO.size<=arity P f):qA P (callFunc f atO)/\zu P (Yld P F) (callFunc f atO):=by
 rcases hF f hf with⟨fn,c,S,h1,h2,h3,h4,h5⟩|⟨fn,h1,h2,h3,h4,h6⟩
 .have hne:fn.body.isNone=false:=by rw[h3];rfl
  have key:∀(Q:Sem Next->Prop),Q (pure (.enter f atO))->Q ((λp:Program=>match p.funcs[f]? with
   |none=>stuck "call: no such function"
   |some fn=>if fn.name== "runtime.NumGoroutine" then pure .numGoroutine
    else if fn.body.isNone then(do
     mark (.extern f)
     if let some e:=Extern.findNext fn then return<-e atO
     match Extern.find fn with
     |some e=>pure (.value (<-e atO))
     |none=>
      if fn.name.endsWith ".init" &&!fn.name.startsWith "(" &&!fn.name.startsWith "gosem." then pure (.value (.tuple #[]))
      else unsupported (.extern fn.name))
    else pure (.enter f atO):Program->Sem Next) P):=λQ hQ=>by
   dsimp only;rw[h1];dsimp only;rw[h2,hne];exact hQ
  refine⟨qA.of (key (Plain P) (qg _)),key (zu P (Yld P F)) (.inr (.inr ⟨f,atO,⟨fn,c,S,h1,h2,h3,h4,h5⟩,ha,rfl⟩))⟩
 .have hne:fn.body.isNone=true:=by rw[h3];rfl
  have hm:qA P (mark (.extern f)):=qA.of ⟨.inr ⟨f,rfl⟩,trivial⟩;cases h5:Extern.find fn with
  |some x=>
   have key:∀(Q:Sem Next->Prop),Q (mark (.extern f)>>=λ_=>(do pure (.value (<-x atO))))->Q ((λp:Program=>match p.funcs[f]? with
    |none=>stuck "call: no such function"
    |some fn=>if fn.name== "runtime.NumGoroutine" then pure .numGoroutine
     else if fn.body.isNone then(do
      mark (.extern f)
      if let some e:=Extern.findNext fn then return<-e atO
      match Extern.find fn with
      |some e=>pure (.value (<-e atO))
      |none=>
       if fn.name.endsWith ".init" &&!fn.name.startsWith "(" &&!fn.name.startsWith "gosem." then pure (.value (.tuple #[]))
       else unsupported (.extern fn.name))
     else pure (.enter f atO):Program->Sem Next) P):=λQ hQ=>by
    exact axq
   have h8:qA P (mark (.extern f)>>=λ_=>(do pure (Next.value (<-x atO)):Sem Next)):=qA.bind hm λ_=>qA.bind (h6 x h5 atO) λ_=>rq _
   have h9:zu P (Yld P F) (mark (.extern f)>>=λ_=>(do pure (Next.value (<-x atO)):Sem Next)):=rU (mark (.extern f)) _ λ_=>rU (x atO) _ λv=>.inl ⟨v,rfl⟩
   exact⟨Qk (key (λs=>qA P s) h8),key (zu P (Yld P F)) h9⟩
  |none=>
   have key:∀(Q:Sem Next->Prop),Q (mark (.extern f)>>=λ_=>(if(fn.name.endsWith ".init" &&!fn.name.startsWith "(" &&!fn.name.startsWith "gosem.")=true then pure (.value (.tuple #[]))else unsupported (.extern fn.name)))->Q ((λp:Program=>match p.funcs[f]? with
    |none=>stuck "call: no such function"
    |some fn=>if fn.name== "runtime.NumGoroutine" then pure .numGoroutine
     else if fn.body.isNone then(do
      mark (.extern f)
      if let some e:=Extern.findNext fn then return<-e atO
      match Extern.find fn with
      |some e=>pure (.value (<-e atO))
      |none=>
       if fn.name.endsWith ".init" &&!fn.name.startsWith "(" &&!fn.name.startsWith "gosem." then pure (.value (.tuple #[]))
       else unsupported (.extern fn.name))
     else pure (.enter f atO):Program->Sem Next) P):=λQ hQ=>by
    exact axq
   refine⟨Qk (key (λs=>qA P s) (qA.bind hm λ_=>qA.ite (rq _) (wG trivial))),key (zu P (Yld P F)) (rU (mark (.extern f)) _ λ_=>?_)⟩;split
   .exact .inl ⟨_,rfl⟩
   .exact trivial
end
attribute [local irreducible] Plain
section
variable {P:Program}{F:FuncId->Bool}
theorem abE(t:TypeId)(ps:Array (Nat×Value)):Plain P (Instr.build t ps):=by
 unfold Instr.build
 (repeat'(first|with_reducible(first|exact qg _|exact qj _|exact vU _|exact qp _|exact sQ _|exact U5 (λ_=>qh (sQ _) λ_=>qg _) _|(refine qh ?_ (λ_=>?_)))|split))
theorem adH{s d:TypeId}{k k':IntKind}(hs:P.underlying s=some (.int k))(hd:P.underlying d=some (.int k'))(x:Value):Plain P (convert s d x):=by
 unfold convert;refine Cb hs (Cb hd ?_);have h1:∀k n,Plain P (Conv.intToInt k n):=λk n=>by unfold Conv.intToInt;(repeat'(with_reducible exact qg _))
 have h2:∀a b k,Plain P (Conv.floatToInt a b k):=λa b k=>by unfold Conv.floatToInt;(repeat'(first|with_reducible(first|exact qg _|exact uS _|(refine qh ?_ (λ_=>?_))|(refine qI ?_ ?_))|split))
 split<;>first|contradiction|(repeat'(first|((with_reducible refine rF ?_);exact trivial)|with_reducible(first|exact h1 _ _|exact h2 _ _ _)))
theorem Ri{γ σ:Type}{f:γ->σ->Sem (ForInStep σ)}(h:∀a s,Plain P (f a s)):∀(l:List γ)(s:σ),Plain P (forIn l s f)
 |[],s=>by rw[List.forIn_nil];exact qg _
 |a::l,s=>by
  rw[List.forIn_cons];refine qh (h a s) λr=>?_
  cases r with
  |done b=>exact qg _
  |yield b=>exact Ri h l b
theorem WE(x:Value):Plain P (Conv.bytesToString x):=by
 unfold Conv.bytesToString;split
 .exact qg _
 .refine qh (Di _ _) λcs=>qh ?_ λ_=>qg _
  rw[<-Array.forIn_toList];refine Ri (λc s=>?_) _ _
  (repeat'(first|with_reducible(first|exact qg _|exact qj _|(refine qh ?_ (λ_=>?_)))|split))
 ·(repeat'(with_reducible exact qj _))
theorem abG{s d e:TypeId}(hs:P.underlying s=some (.slice e))(hd:P.underlying d=some .string)(he:P.underlying e=some (.int .u8))(x:Value):Plain P (convert s d x):=by
 unfold convert;refine Cb hs (Cb hd ?_);have h1:∀n,Plain P (Conv.intToString n):=λn=>by unfold Conv.intToString;(repeat'(with_reducible exact qg _))
 have h2:Plain P (underlying e>>=λu=>match u with| .int .u8=>Conv.bytesToString x| .int .i32=>Conv.runesToString x|_=>stuck "Convert: a slice of what to string?"):=Cb he (WE x);split
 all_goals first
  |contradiction
  |exact qg _
  |exact h1 _
  |(rename_i hh _ _ _;cases hh;exact h2)
  |trivial
  |(repeat'((with_reducible refine rF ?_);exact trivial))
theorem qA.congr{α:Type}{s s':Sem α}(h:∀w es,s.runT P w es=s'.runT P w es)(h':qA P s'):qA P s:=
 ⟨λw v es x v' rJ hs hr=>by rw[h]at hr⊢;exact h'.VQ w v es x v' rJ hs hr,λv es x v' rJ hn hr=>by rw[h]at hr;obtain⟨a,b,c⟩:=h'.tape v es x v' rJ hn hr;exact⟨a,b,λτ hτ=>by rw[h];exact c τ hτ⟩,λw v es x v' rJ hs hr=>by rw[h]at hr;exact h'.RN w v es x v' rJ hs hr⟩
theorem agA(w:World)(cs:Array Value)(t:TypeId):({w with heap:=w.heap.push (.cells cs t)}:World).freeze ⟨w.heap.size,cs.size,none⟩ 1={w with heap:=w.heap.push (.cells cs t (cs.size,cs.size+1))}:=by
 unfold World.freeze;rw[ah au]
 congr 1
 apply Array.ext
 .simp
 .intro i h1 h2;rw[Array.getElem_modify];have hi:i<w.heap.size+1:=jc;by_cases e:w.heap.size=i
  .subst e;simp
  .rw[ah e,avn ae,avn ae]
theorem Zp(t:TypeId)(s:ByteArray):qA P (Conv.stringToBytes t s):=by
 unfold Conv.stringToBytes;refine qA.bind (Ce _) λcap=>?_
 dsimp only;generalize(s.data.map λ(b:UInt8)=>Value.int .u8 b.toNat)++Array.replicate (cap-s.size) (Value.int .u8 0)=cs;refine qA.congr (s':=newObj (.cells cs t (cs.size,cs.size+1))>>=λb=>pure (.slice (some ⟨b,0,none⟩) s.size cap)) (λw es=>?_) (qA.of (qh (Ku trivial) λ_=>qg _));have hg:({w with heap:=w.heap.push (.cells cs t)}:World).shape? w.heap.size=some (t,cs.size):=by simp[World.shape?]
 show((markStringish ⟨w.heap.size,0,none⟩).bind λ_=>Sem.pure (Value.slice (some ⟨w.heap.size,0,none⟩) s.size cap)).runT P {w with heap:=w.heap.push (.cells cs t)} es=_;unfold markStringish;simp only[shape,freeze,bind,Sem.bind,Sem.runT,hg,pure];rw[agA];rfl
theorem adI{s d e:TypeId}(hs:P.underlying s=some .string)(hd:P.underlying d=some (.slice e))(he:P.underlying e=some (.int .u8))(x:Value):qA P (convert s d x):=by
 have key:∀(k:TypeDesc->Sem Value)(t:TypeId)(u:TypeDesc),P.underlying t=some u->qA P (k u)->qA P (underlying t>>=k):=λk t u ht hk=>by refine qA.congr (s':=k u) (λw es=>?_) hk;show((match P.underlying t with|some d=>pure d|none=>stuck "no such type" :Sem TypeDesc).bind k).runT P w es=_;rw[ht];rfl
 unfold convert;refine key _ s _ hs (key _ d _ hd ?_);cases x
 case string b=>exact key _ e _ he (Zp e b)
 case slice a n c=>cases a<;>exact wG (u:=.noEntry "convert/other") trivial
 case pointer a=>cases a<;>exact wG (u:=.noEntry "convert/other") trivial
 all_goals exact wG (u:=.noEntry "convert/other") trivial
theorem adJ(x y:Value):Plain P (Builtin.min2 x y):=by unfold Builtin.min2;split<;>(repeat'(first|with_reducible(first|exact qg _|exact qj _)|((with_reducible refine rF ?_);exact trivial)|with_reducible(first|exact uS _|exact Es _ _ _|exact DK _|(refine qh ?_ (λ_=>?_)))|split))
theorem LP:∀(l:List Value)(x:Value),Plain P (l.foldlM Builtin.min2 x)
 |[],x=>by rw[List.foldlM_nil];exact qg _
 |y::l,x=>by rw[List.foldlM_cons];exact qh (adJ x y) λr=>LP l r
theorem agB(ts:Array TypeId)(t:TypeId)(atO:Array Value):Plain P (Builtin.min_ ts t atO):=by
 unfold Builtin.min_;split
 ·(repeat'(with_reducible exact qj _))
 .exact LP _ _
theorem Fa:∀(path:List FieldStep)(t:TypeId)(x:Option Value),Plain P (followBlind path t x)
 |[],_,_=>qg _
 |s::rest,_,_=>by
  unfold followBlind;have ih:=Fa rest
  (repeat'(first|with_reducible(first|exact qg _|exact qj _|exact qp _|exact yA _ _ _|exact ih _ _|(refine qh ?_ (λ_=>?_)))|split))
theorem JF:∀(n:Nat)(t:TypeId)(v:Value)(name:String),Plain P (nilAhead n t v name)
 |0,_,_,_=>qg _
 |n+1,t,v,name=>by
  unfold nilAhead;have ih:=JF n
  (repeat'(first|with_reducible(first|exact qg _|exact qj _|exact rE _|exact qp _|exact Fa _ _ _|exact ih _ _ _|(refine qh ?_ (λ_=>?_)))|split))
theorem abH{Q:Next->Prop}:zu P Q (runtimePanic .nilDeref:Sem Next):=by unfold runtimePanic;exact rU program _ λp=>trivial
theorem sS{s:Sem Value}:zu P (Yld P F) (do pure (.value (<-s))):=rU s _ λa=>.inl ⟨a,rfl⟩
theorem agC{s:Sem Unit}:zu P (Yld P F) (do s;pure .skip):=rU s _ λ_=>.inr (.inl rfl)
theorem Zq(info:TypeId->Option TypeInfo)(d:TypeDesc)(i:TypeInfo)(h:Made.reckon info d=some i):i.methods=#[]:=by
 have hs:∀fs,Made.reckonStruct info fs=some i->i.methods=#[]:=λfs h=>by unfold Made.reckonStruct at h;simp only[nG,kC,atW]at h;obtain⟨r,_,h⟩:=h;split at h<;>(cases h;rfl)
 unfold Made.reckon at h;split at h
 case h_7=>exact hs _ h
 case h_1=>
  simp only[nG,kC,atW]at h;obtain⟨r,_,h⟩:=h;split at h
  .cases h
  .split at h
   .cases h
   .obtain⟨_,_,h⟩:=kC.1 h;cases h;rfl
  .obtain⟨_,_,h⟩:=kC.1 h;cases h;rfl
 all_goals first
  |cases h
  |(simp only[nG,kC,atW]at h
    repeat (obtain⟨_,_,h⟩:=h)
    first|rfl|(cases h;rfl))
theorem Zr{t:TypeId}{i:TypeInfo}(h:P.info? t=some i):i∈P.types\/i.methods=#[]:=by
 have key:∀n,Made.infoAt P.toTables n t=some i->i∈P.types\/i.methods=#[]:=λn hn=>by
  cases n with
  |zero=>cases hn
  |succ n=>
   unfold Made.infoAt at hn;split at hn
   .exact .inl (eG hn)
   .obtain⟨d,_,hd⟩:=kC.1 hn;exact .inr (Zq _ _ _ hd)
 unfold Tables.info? at h;split at h
 .exact .inl (eG h)
 .exact key _ h
theorem qA.aqP{α β:Type}{R:α->Prop}{s:Sem α}{f:α->Sem β}(h:qA P s)(hl:zu P R s)(h':∀a,R a->qA P (f a)):qA P (s>>=f):=by
 have e:∀w es,(s>>=f).runT P w es=match s.runT P w es with
   |(.ok a w',rJ)=>(f a).runT P w' rJ
   |(.halt x w',rJ)=>(.halt x w',rJ):=λw es=>Go.Sem.runT_bind' P s f w es
 have key:∀a v es v1 KZ,s.runT P v es=(.ok a v1,KZ)->qA P (f a):=λa v es v1 KZ hr=>h' a (uD s hl v es a v1 KZ hr)
 refine⟨λw v es x v' rJ hs hr=>?_,λv es x v' rJ hn hr=>?_,λw v es x v' rJ hs hr=>?_⟩
 .rw[e]at hr;cases xW:s.runT P v es with
  |mk r KZ=>
   rw[xW]at hr;cases r with
   |halt y v1=>cases hr
   |ok a v1=>
    obtain⟨w1,h1,h2,h3,h4⟩:=h.VQ w v es a v1 KZ hs xW;obtain⟨w2,g1,g2,g3,g4⟩:=(key _ _ _ _ _ xW).VQ w1 v1 KZ x v' rJ h2 hr;refine⟨w2,by rw[e,h1];exact g1,g2,ae,λev hev=>?_⟩;rcases g4 ev hev with g5|g5
    .rcases h4 ev g5 with g6|g6
     .exact .inl g6
     .exact .inr (g6.grow avP)
    .exact .inr g5
 .rw[e]at hr;cases xW:s.runT P v es with
  |mk r KZ=>
   rw[xW]at hr;cases r with
   |halt y v1=>cases hr
   |ok a v1=>
    obtain⟨h1,h2,h3⟩:=h.tape v es a v1 KZ hn xW;obtain⟨w1,_,x9,_,_⟩:=h.VQ v v es a v1 KZ (xE.self hn) xW;obtain⟨g1,g2,g3⟩:=(key _ _ _ _ _ xW).tape v1 KZ x v' rJ x9.nv hr;exact axE
 .rw[e]at hr;cases xW:s.runT P v es with
  |mk r KZ=>
   rw[xW]at hr;cases r with
   |halt y v1=>
    cases hr;exact h.RN w v es x v' rJ hs xW
   |ok a v1=>
    obtain⟨w1,_,h2,_,_⟩:=h.VQ w v es a v1 KZ hs xW;exact(key _ _ _ _ _ xW).RN w1 v1 KZ x v' rJ h2 hr
theorem WG(t:TypeId):zu P (λi=>P.info? t=some i) (typeInfo t):=by
 unfold typeInfo;show zu P (λi=>P.info? t=some i) (match P.info? t with|some i=>pure i|none=>_);cases h:P.info? t with
 |some i=>exact rfl
 |none=>trivial
theorem JG{n:Nat}{name:String}(h:adG P F n name=true):∀(fuel:Nat)(t:TypeId)(v:Value),zu P (λr=>F r.1=true/\n<=arity P r.1) (method fuel t v name)
 |0,_,_=>trivial
 |fuel+1,t,v=>by
  have ih:=JG h fuel;unfold method;refine uu (typeInfo t) _ (WG t) λi hi=>?_
  cases hm:i.methods.find? (·.name==name)with
  |none=>trivial
  |some m=>
   have h1:=Array.mem_of_find?_eq_some hm;have h2:(m.name==name)=true:=by simpa using Array.find?_some hm
   refine rU (follow _ _ _) _ λr=>?_
   obtain⟨xt,x⟩:=r;dsimp only;cases hf:m.func with
   |none=>
    refine rU (x.get xt) _ λu=>?_
    cases u<;>first
     |exact ih _ _
     |trivial
     |(unfold runtimePanic;exact rU program _ λp=>trivial)
   |some q=>
    obtain⟨f,pr⟩:=q;refine rU (receiverAt _ _ _ _) _ λu=>?_
    rcases Zr hi with h3|h3
    .have h4:=kY.1 h i h3;have h5:=kY.1 h4 m h1;rw[hf]at h5;simp only[bne,h2,iI,jO,fG,gY]at h5;exact h5
    .rw[h3]at h1;simp at h1
theorem adK(x:Value):qA P (Instr.panic x):=by
 have key:∀(v:World)(es:Array Event),(∀(b:Nat)(o:Obj),v.heap[b]?=some o->wL o)->∃h v' rJ,(Instr.panic x).runT P v es=(.halt h v',rJ)/\FN h:=λv es hn=>by
  cases x<;>first
   |exact⟨_,_,_,rfl,trivial⟩
   |skip
  have e2:∃(n:Bool)(es2:Array Event),(Instr.panic .nilIface).runT P v es=(if n=true then goPanic .nilIface else runtimePanic .panicNil:Sem Value).runT P v es2:=⟨_,_,rfl⟩;obtain⟨n,es2,e2⟩:=e2;rw[e2];cases n with
  |true=>exact⟨_,_,_,rfl,trivial⟩
  |false=>
   simp only[bu,aU]
   have hd:qM P (runtimePanic .panicNil:Sem Value):=by unfold runtimePanic;exact qM.late program _ λp=>qM.late (elemOf _) _ λ_=>qM.late (newVar _ _) _ λ_=>trivial
   obtain⟨h,v',rJ,h1⟩:=rZ _ hd v es2;exact⟨h,v',rJ,h1,uz _ v v es2 h v' rJ (qX _) (xE.self hn) h1⟩
 refine⟨λw v es x v' rJ hs hr=>?_,λv es x v' rJ hn hr=>?_,λw v es x v' rJ hs hr=>?_⟩
 .obtain⟨h,v1,KZ,h1,_⟩:=key v es hs.nv;rw[h1]at hr;cases hr
 .obtain⟨h,v1,KZ,h1,_⟩:=key v es hn;rw[h1]at hr;cases hr
 .obtain⟨h,v1,KZ,h1,h2⟩:=key v es hs.nv;rw[h1]at hr;cases hr;exact h2
def F8(S:Zi)(tmps:Array Value):Prop:=∀x∈S,tmps.getD x.1 undef=undef\/∃fs cs,tmps.getD x.1 undef=.func (.func x.2.1) fs cs/\fs.size+cs.size=x.2.2
theorem YY(hF:xB P F){S:Zi}{tmps:Array Value}{ρ:Operand->Value}(hρ:∀f,ρ (.func f)=.func (.func f) #[] #[])(hτ:∀j,ρ (.tmp j)=tmps.getD j undef)(hS:F8 S tmps){o:Oper}(ho:E_ P F S o=true):
  qA P (execOp ρ o)/\zu P (Yld P F) (execOp ρ o):=by
 obtain⟨dst,op,ty,pos,after,guard⟩:=o;have V:∀{s:Sem Value},Plain P s->qA P (do pure (Next.value (<-s)):Sem Next):=λh=>qA.of (qh h λ_=>qg _)
 have VO:∀{s:Sem Value},qA P s->qA P (do pure (Next.value (<-s)):Sem Next):=λh=>qA.bind h λ_=>rq _
 have U:∀{s:Sem Unit},Plain P s->qA P (do s;pure Next.skip:Sem Next):=λh=>qA.of (qh h λ_=>qg _)
 unfold E_ at ho;rw[fG]at ho;cases op
 case move=>exact⟨rq _,.inl ⟨_,rfl⟩⟩
 case assign=>exact⟨rq _,.inl ⟨_,rfl⟩⟩
 case pick c a b=>exact⟨qA.of (qh (DK _) λ_=>qg _),rU (asBool _) _ λ_=>.inl ⟨_,rfl⟩⟩
 case alloc=>exact⟨V (aby _ _ _),sS⟩
 case box=>exact⟨V (agx _ _),sS⟩
 case build=>exact⟨V (abE _ _),sS⟩
 case buildSlice=>exact⟨V (Qj _ _ _),sS⟩
 case load=>exact⟨V (Zm _ _),sS⟩
 case store=>exact⟨U (Wx _ _ _),agC⟩
 case nilCheck x=>
  have e:execOp ρ ⟨dst,.nilCheck x,ty,pos,after,guard⟩=(match ρ x with
   | .pointer none| .nilIface| .nilFunc=>runtimePanic .nilDeref
   | .func (.method name) first captured=>
     match(first[0]?:Option Value)with
     |some .nilIface=>runtimePanic .nilDeref
     |some (.iface t w)=>do
      if(<-nilAhead ((<-program).types.size+Made.depth) t w name) != some false then
       unsupported (.noEntry "op/nilCheck.the method's receiver behind this interface value is a nil pointer, or cannot be seen to be none, and the arguments act or may panic (ledger 612)")
      pure (.value (.func (.method name) first captured))
     |_=>pure (.value (.func (.method name) first captured))
   |x=>pure (.value x)):=rfl
  rw[e];have np:qA P (runtimePanic .nilDeref:Sem Next):=qA.of (qX _);have nl:zu P (Yld P F) (runtimePanic .nilDeref:Sem Next):=abH;split
  .exact⟨np,nl⟩
  .exact⟨np,nl⟩
  .exact⟨np,nl⟩
  .split
   .exact⟨np,nl⟩
   .constructor
    .refine qA.of ?_
     (repeat'(first|with_reducible exact qg _|((with_reducible refine rF ?_);exact trivial)|with_reducible(first|exact rP|exact JF _ _ _ _|(refine qh ?_ (λ_=>?_))|(refine qI ?_ ?_))))
    .refine rU program _ λ_=>rU (nilAhead _ _ _ _) _ λr=>?_
     split
     .exact rU (unsupported _) _ λ_=>Or.inl ⟨_,rfl⟩
     .exact Or.inl ⟨_,rfl⟩
   .exact⟨rq _,.inl ⟨_,rfl⟩⟩
  .exact⟨rq _,.inl ⟨_,rfl⟩⟩
 case unOp=>exact⟨V (abA _ _),sS⟩
 case makeSlice=>exact⟨V (Sv _ _ _),sS⟩
 case makeFunc=>exact⟨V (qg _),sS⟩
 case slice=>exact⟨V (WA _ _ _ _ _),sS⟩
 case fieldAddr=>exact⟨V (WC _ _ _),sS⟩
 case field=>exact⟨V (abC _ _ _),sS⟩
 case indexAddr=>exact⟨V (Wy _ _ _),sS⟩
 case index=>exact⟨V (abD _ _ _),sS⟩
 case extract=>exact⟨V (WB _ _),sS⟩
 case binOp op t x y t'=>exact⟨VO (qA.bind (adL _ _ _ _ _ _) λ_=>adM _ _ _ _),sS⟩
 case typeAssert=>exact⟨VO (Sz _ _ _ _),sS⟩
 case makeInterface=>exact⟨VO (MX _ _),sS⟩
 case panic=>exact⟨VO (adK _),sS⟩
 case convert s d x=>
  have h1:((isInt P s&&isInt P d)||TE P s d||isStr P s d)=true:=ho.2;rw[kU,kU,fG]at h1;rcases h1 with(h1|h1)|h1
  .obtain⟨k,hk⟩:=U6 h1.1;obtain⟨k',VH⟩:=U6 h1.2;exact⟨V (adH hk VH _),sS⟩
  .obtain⟨e,h2,h3,h4⟩:=Zo h1;exact⟨V (abG h2 h3 h4 _),sS⟩
  .obtain⟨e,h2,h3,h4⟩:=adF h1;exact⟨VO (adI h2 h3 h4 _),sS⟩
 case call c=>
  obtain⟨callee,args,ats⟩:=c;cases callee with
  |builtin b=>
   have h1:XZ b=true:=ho.2;cases b
   case len=>exact⟨V (agy _ _ _),sS⟩
   case cap=>exact⟨V (agz _ _ _),sS⟩
   case append=>exact⟨V (Zt _ _ _),sS⟩
   case copy=>exact⟨V (adE _ _ _),sS⟩
   case min=>exact⟨V (agB _ _ _),sS⟩
   case max=>exact⟨VO (ajI _ _ _),sS⟩
   all_goals cases h1
  |invoke recv name=>
   have h1:adG P F (1+args.size) name=true:=ho.2
   have e:execOp ρ ⟨dst,.call ⟨.invoke recv name,args,ats⟩,ty,pos,after,guard⟩=callMethod (ρ recv) name ((#[ρ recv]++args.map ρ).extract 1 (#[ρ recv]++args.map ρ).size):=by
    have h0:(#[ρ recv]++args.map ρ)[0]?=some (ρ recv):=(Array.getElem?_append_left (Nat.zero_lt_one)).trans rfl
    show(match(#[ρ recv]++args.map ρ)[0]? with
     |some r=>callMethod r name ((#[ρ recv]++args.map ρ).extract 1 (#[ρ recv]++args.map ρ).size)
     |_=>stuck "call: a method without a receiver")=_
    rw[h0]
   rw[e];unfold callMethod;have hsz:((#[ρ recv]++args.map ρ).extract 1 (#[ρ recv]++args.map ρ).size).size=args.size:=ai;generalize(#[ρ recv]++args.map ρ).extract 1 (#[ρ recv]++args.map ρ).size=atO at hsz;cases ρ recv with
   |iface t v=>
    dsimp only;refine⟨Qk (qA.aqP (Rj _ _ _ _) (JG h1 _ _ _) λr hr=>(BL hF (atO:=#[r.2]++atO) hr.1 az).1),rU program _ λp=>uu (method _ _ _ _) _ (JG h1 _ _ _) λr hr=>(BL hF (atO:=#[r.2]++atO) hr.1 az).2⟩
   |nilIface=>exact⟨qA.of (qX _),abH⟩
   |_=>exact⟨tY _,trivial⟩
  |value x=>
   cases x with
   |func f=>
    have hf:(F f&&decide (args.size<=arity P f))=true:=ho.2;rw[fG,gY]at hf
    have e:execOp ρ ⟨dst,.call ⟨.value (.func f),args,ats⟩,ty,pos,after,guard⟩=callFunc f (#[]++args.map ρ++#[]):=by show(Deferred.ofValue (ρ (.func f)) (args.map ρ)>>=λd=>invoke d.target d.args)=_;rw[hρ];rfl
    rw[e];exact BL hF (atO:=#[]++args.map ρ++#[]) hf.1 (by simpa using hf.2)
   |tmp j=>
    have hj:(S.any (λx=>x.1==j)&&S.all λx=>if x.1==j then F x.2.1&&decide (x.2.2+args.size<=arity P x.2.1)else true)=true:=ho.2;rw[fG]at hj;obtain⟨y,hy,hyj⟩:=List.any_eq_true.1 hj.1;have aqQ:y.1=j:=by simpa using hyj
    have h2:=iZ.1 hj.2 y hy;rw[aj hyj,fG,gY]at h2;have e0:execOp ρ ⟨dst,.call ⟨.value (.tmp j),args,ats⟩,ty,pos,after,guard⟩=(Deferred.ofValue (ρ (.tmp j)) (args.map ρ)>>=λd=>invoke d.target d.args):=rfl;rw[e0,hτ];rcases hS y hy with h3|⟨fs,cs,h3,h4⟩
    .rw[<-aqQ,h3];exact⟨tY _,trivial⟩
    .rw[<-aqQ,h3];exact BL hF (atO:=fs++args.map ρ++cs) h2.1 az
   |_=>cases ho.2
 all_goals cases ho.2
