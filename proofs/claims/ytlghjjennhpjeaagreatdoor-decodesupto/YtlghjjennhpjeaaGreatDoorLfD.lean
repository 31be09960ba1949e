import Derived.Test.YtlghjjennhpjeaaGreatDoorLfC
namespace Go.Lf
structure qE(P:aP){α:Type}(s:Sem α):Prop where
 VW:∀{X:Nat->Prop}{Y:Nat->aZ}(w v:ah)(es:aN)(x:α)(v':ah)(rF:aN),yg X Y w v->s.runT P v es=(.ok x v',rF)->
  ∃w',s.runT P w es=(.ok x w',rF)/\yg X Y w' v'/\v.heap.size<=v'.heap.size/\∀e∈rF,e∈es\/EvP X w' e
 tape:∀(v:ah)(es:aN)(x:α)(v':ah)(rF:aN),(∀(b:Nat)(o:Obj),v.heap[b]?=some o->xy o)->s.runT P v es=(.ok x v',rF)->
  v'.tape=v.tape/\v.drawn<=v'.drawn/\∀τ:Nat->Question->Nat,(∀p,v.drawn<=p->p<v'.drawn->τ p=v.tape p)->s.runT P {v with tape:=τ} es=(.ok x {v' with tape:=τ},rF)
 RY:∀{X:Nat->Prop}{Y:Nat->aZ}(w v:ah)(es:aN)(x:Halt)(v':ah)(rF:aN),yg X Y w v->s.runT P v es=(.halt x v',rF)->F5 x
section
variable {P:aP}{α β:Type}
theorem qE.of{s:Sem α}(h:Plain P s):qE P s:=⟨λw v es x v' rF=>vP s w v es x v' rF h,λv es x v' rF=>wG s v es x v' rF h,λw v es x v' rF=>uG s w v es x v' rF h⟩
theorem qE.bind{s:Sem α}{f:α->Sem β}(h:qE P s)(h':∀a,qE P (f a)):qE P (s>>=f):=by
 have e:∀w es,(s>>=f).runT P w es=match s.runT P w es with
   |(.ok a w',rF)=>(f a).runT P w' rF
   |(.halt x w',rF)=>(.halt x w',rF):=λw es=>Go.Sem.runT_bind' P s f w es
 refine⟨λw v es x v' rF hs hr=>?_,λv es x v' rF hn hr=>?_,λw v es x v' rF hs hr=>?_⟩
 .rw[e]at hr;cases EO:s.runT P v es with
  |mk r LZ=>
   rw[EO]at hr;cases r with
   |halt y v1=>cases hr
   |ok a v1=>
    obtain⟨w1,h1,h2,h3,h4⟩:=h.VW w v es a v1 LZ hs EO;obtain⟨w2,g1,g2,g3,g4⟩:=(h' a).VW w1 v1 LZ x v' rF h2 hr;refine⟨w2,by rw[e,h1];exact g1,g2,ag,λev hev=>?_⟩;rcases g4 ev hev with g5|g5
    .rcases h4 ev g5 with g6|g6
     .exact .inl g6
     .exact .inr (g6.grow awx)
    .exact .inr g5
 .rw[e]at hr;cases EO:s.runT P v es with
  |mk r LZ=>
   rw[EO]at hr;cases r with
   |halt y v1=>cases hr
   |ok a v1=>
    obtain⟨h1,h2,h3⟩:=h.tape v es a v1 LZ hn EO;obtain⟨w1,_,Ai,_,_⟩:=h.VW v v es a v1 LZ (yg.self hn) EO;obtain⟨g1,g2,g3⟩:=(h' a).tape v1 LZ x v' rF Ai.nv hr;exact ayN
 .rw[e]at hr;cases EO:s.runT P v es with
  |mk r LZ=>
   rw[EO]at hr;cases r with
   |halt y v1=>
    cases hr;exact h.RY w v es x v' rF hs EO
   |ok a v1=>
    obtain⟨w1,_,h2,_,_⟩:=h.VW w v es a v1 LZ hs EO;exact(h' a).RY w1 v1 LZ x v' rF h2 hr
theorem Qq{k:aP->Sem α}(h:qE P (k P)):qE P (program>>=k):=⟨λw v es x v' rF hs hr=>h.VW w v es x v' rF hs hr,λv es x v' rF hn hr=>h.tape v es x v' rF hn hr,λw v es x v' rF hs hr=>h.RY w v es x v' rF hs hr⟩
theorem qE.ite{c:Prop}[Decidable c]{a b:Sem α}(h:qE P a)(h':qE P b):qE P (if c then a else b):=by split<;>assumption
def sgW(u:ah)(a:Addr):Bool:=u.frozen? a||match u.shape? a.block with
 |some (_,n)=>u.frozen? {block:=a.block,off:=n}
 |none=>false
def emW(u:ah)(a:Addr):Bool:=(u.shape? a.block) matches some (_,0)
def mbW(u:ah)(a b:Addr):Bool:=(sgW u a&&sgW u b)||(sgW u a&&emW u a)||(sgW u b&&emW u b)
theorem run_frozen(a:Addr)(u:ah)(es:aN):(frozen a).runT P u es=(.ok (u.frozen? a) u,es):=rfl
theorem run_shape(r:Nat)(u:ah)(es:aN):(shape r).runT P u es=(.ok (u.shape? r) u,es):=rfl
theorem MM(a:Addr)(u:ah)(es:aN):(stringish a).runT P u es=(.ok (sgW u a) u,es):=by
 unfold stringish sgW;show(Sem.bind (frozen a) _).runT P u es=_;rw[Go.Sem.runT_bind',run_frozen];cases hf:u.frozen? a with
 |true=>rfl
 |false=>
  simp only[dm,bU,jS];show(Sem.bind (shape a.block) _).runT P u es=_;rw[Go.Sem.runT_bind',run_shape];cases u.shape? a.block with
  |none=>rfl
  |some x=>rfl
theorem AU(a b:Addr)(u:ah)(es:aN):(mayBeOne a b).runT P u es=(.ok (mbW u a b) u,es):=by unfold mayBeOne;show(Sem.bind (stringish a) _).runT P u es=_;rw[Go.Sem.runT_bind',MM];show(Sem.bind (stringish b) _).runT P u es=_;rw[Go.Sem.runT_bind',MM];rfl
theorem afi{X:Nat->Prop}{Y:Nat->aZ}{w v:ah}(h:yg X Y w v)(a:Addr):sgW w a=sgW v a/\(sgW v a=true->emW w a=emW v a):=by
 have sh:¬X a.block->w.shape? a.block=v.shape? a.block:=λhx=>by
  cases hy:Y a.block with
  |some o=>
   obtain⟨o',h1,h2,hg⟩:=h.gho _ _ hy;simp only[World.shape?,h1,h2];rcases hg with⟨b,t,rfl,rfl⟩|⟨c,t,rfl,rfl⟩<;>rfl
  |none=>simp only[World.shape?,h.same a.block hx hy]
 by_cases hx:X a.block
 .have no:∀n,v.frozen? {block:=a.block,off:=n}=false:=λn=>by
   obtain⟨cs,t,fr,h1,h2⟩:=h.doc _ hx;obtain rfl:=h.unf _ _ _ _ hx h2;simp[World.frozen?,h2]
  have nv:sgW v a=false:=by
   unfold sgW
   have h1:v.frozen? a=false:=by have:=no a.off;simpa[World.frozen?]using this
   rw[h1,jS];split
   .exact no _
   .rfl
  have nw:sgW w a=false:=by
   unfold sgW
   have h1:w.frozen? a=false:=by rw[h.frozen];have:=no a.off;simpa[World.frozen?]using this
   rw[h1,jS];split
   .rw[h.frozen];exact no _
   .rfl
  exact⟨nw.trans nv.symm,λhh=>by rw[nv]at hh;cases hh⟩
 .refine⟨?_,λ_=>by unfold emW;rw[sh hx]⟩;unfold sgW;rw[sh hx,h.frozen];split
  .rw[h.frozen]
  .rfl
theorem WQ(a b:Addr):qE P (mayBeOne a b):=by
 refine⟨λw v es x v' rF hs hr=>?_,λv es x v' rF hn hr=>?_,λw v es x v' rF hs hr=>?_⟩
 .rw[AU]at hr;cases hr;refine⟨w,?_,hs,ay _,λe he=>.inl he⟩;rw[AU];have ha:=afi hs a;have hb:=afi hs b
  have:mbW w a b=mbW v a b:=by
   unfold mbW;rw[ha.1,hb.1];cases h1:sgW v a<;>cases h2:sgW v b<;>simp only[Bool.false_and,Bool.true_and,jS,Bool.true_or]
   .exact hb.2 h2
   .rw[ha.2 h1]
  rw[this]
 .rw[AU]at hr;cases hr;exact⟨rfl,ay _,λτ _=>by rw[AU];rfl⟩
 .rw[AU]at hr;cases hr
end
attribute [local irreducible] Plain
section
variable {P:aP}{α β:Type}
theorem ry(a:α):qE P (pure a:Sem α):=qE.of (qm a)
theorem t_(s:String):qE P (stuck s:Sem α):=qE.of (qp s)
theorem wK{u:Unsupported}(h:F5 (.unsupported u)):qE P (unsupported u:Sem α):=qE.of (rE h)
theorem Pg:qE P program:=qE.of rH
theorem Ci(q:Question):qE P (choose q):=qE.of (u_ q)
theorem NM{γ σ:Type}{f:γ->σ->Sem (ForInStep σ)}(h:∀a s,qE P (f a s)):∀(l:List γ)(s:σ),qE P (forIn l s f)
 |[],s=>by rw[List.forIn_nil];exact ry _
 |a::l,s=>by
  rw[List.forIn_cons];refine qE.bind (h a s) λr=>?_
  cases r with
  |done b=>exact ry _
  |yield b=>exact NM h l b
theorem X6{γ σ:Type}{f:γ->σ->Sem (ForInStep σ)}(h:∀a s,qE P (f a s))(l:Array γ)(s:σ):qE P (forIn l s f):=by rw[<-Array.forIn_toList];exact NM h _ _
theorem X7{σ:Type}{f:Nat->σ->Sem (ForInStep σ)}(h:∀a s,qE P (f a s))(n:Nat)(s:σ):qE P (forIn [0:n] s f):=by rw[Std.Legacy.Range.forIn_eq_forIn_range'];exact NM h _ _
theorem MN(a b:Addr):qE P (sameAddr a b):=by
 unfold sameAddr
 (repeat'(first|with_reducible exact ry _|((with_reducible refine wK ?_);exact trivial)|with_reducible(first|exact Ci _|exact WQ _ _|exact qE.of (OI _)|exact qE.of (O_ _)|(refine qE.bind ?_ (λ_=>?_))|(refine qE.ite ?_ ?_))))
theorem Qr(a b:aW):qE P (samePointer a b):=by
 unfold samePointer
 (repeat'(first|with_reducible(first|exact ry _|exact MN _ _)|split))
theorem ZF(t:aG):qE P (typeStr t):=by
 unfold typeStr
 (repeat'(first|with_reducible exact ry _|((with_reducible refine wK ?_);exact trivial)|with_reducible(first|exact qE.of (rD _)|(refine qE.bind ?_ (λ_=>?_))|(refine qE.ite ?_ ?_))))
theorem Ph:∀(d:Nat)(t:aG)(x y:ai),qE P (Op.equalIn d t x y)
 |0,_,_,_=>wK trivial
 |d+1,t,x,y=>by
  have ih:=Ph d;unfold Op.equalIn;refine qE.bind (qE.of (qy _)) λu=>?_
  split
  all_goals(repeat'(first|with_reducible(first|exact ry _|exact t_ _)|((with_reducible refine wK ?_);exact trivial)|with_reducible(first|exact Pg|exact Ci _|exact ih _ _ _|exact MN _ _|exact Qr _ _|exact ZF _|exact qE.of (rD _)|exact qE.of (sK _)|exact qE.of (Ip _)|exact qE.of (DD _)|exact qE.of (qW _)|exact X6 (λ_ _=>by(repeat'(with_reducible first|exact ry _|exact ih _ _ _|exact qE.of (yL _ _ _)|(refine qE.bind ?_ (λ_=>?_))|(refine qE.ite ?_ ?_)))) _ _|exact X7 (λ_ _=>by(repeat'(with_reducible first|exact ry _|exact ih _ _ _|exact qE.of (yL _ _ _)|(refine qE.bind ?_ (λ_=>?_))|(refine qE.ite ?_ ?_)))) _ _|(refine qE.bind ?_ (λ_=>?_))|(refine qE.ite ?_ ?_))|split|(dsimp only)))
theorem adN(t:aG)(x y:ai):qE P (Op.equal t x y):=Ph _ t x y
theorem Pj:∀(d:Nat)(t:aG)(x y:ai),qE P (Op.eqGuardIn d t x y)
 |0,_,_,_=>wK trivial
 |d+1,t,x,y=>by
  have ih:=Pj d;unfold Op.eqGuardIn;refine qE.bind (qE.of (qy _)) λu=>?_
  split
  all_goals(repeat'(first|with_reducible(first|exact ry _|exact qE.of (sK _)|exact X6 (λ_ _=>by(repeat'(with_reducible first|exact ry _|exact ih _ _ _|exact qE.of (yL _ _ _)|(refine qE.bind ?_ (λ_=>?_))|(refine qE.ite ?_ ?_)))) _ _|exact X7 (λ_ _=>by(repeat'(with_reducible first|exact ry _|exact ih _ _ _|exact qE.of (yL _ _ _)|(refine qE.bind ?_ (λ_=>?_))|(refine qE.ite ?_ ?_)))) _ _|(refine qE.bind ?_ (λ_=>?_)))|split|(dsimp only)))
theorem adO(op:BinOp)(t:aG)(x y:Operand)(a b:ai):qE P (eqGuard op t x y a b):=by
 unfold eqGuard
 (repeat'(first|with_reducible exact ry _|((with_reducible refine wK ?_);exact trivial)|with_reducible(first|exact Pg|exact Pj _ _ _ _|(refine qE.bind ?_ (λ_=>?_))|(refine qE.ite ?_ ?_))|split))
theorem adP(op:BinOp)(t:aG)(x y:ai):qE P (binOp op t x y):=by unfold binOp;split<;>(repeat'(first|with_reducible(first|exact ry _|exact t_ _)|((with_reducible refine wK ?_);exact trivial)|with_reducible(first|exact adN _ _ _|exact qE.of (abR _ _ _ _ _)|exact qE.of (Vp _ _ _ _)|exact qE.of (ZC _ _ _ _)|exact qE.of (WJ _ _ _ _)|exact qE.of (ZE _ _ _)|exact qE.of (GR _ _ _ _)|exact qE.of (JX _ _ _ _)|exact qE.of (EF _ _ _)|exact qE.of (WL _ _ _ _ _ _)|exact qE.of (WM _ _ _)|exact qE.of (WN _ _ _)|exact qE.of (WO _ _ _)|exact qE.of (Pe _ _ _)|exact qE.of (NL _ _ _)|exact qE.of (Ip _)|exact qE.of (qy _)|(refine qE.bind ?_ (λ_=>?_))|(refine qE.ite ?_ ?_))|split))
theorem SI(x:ai)(a b:aG)(c:Bool):qE P (Instr.typeAssert x a b c):=by
 unfold Instr.typeAssert
 (repeat'(first|with_reducible(first|exact ry _|exact t_ _|exact qE.of (qy _)|exact qE.of (rD _)|exact qE.of (v_ _)|exact qE.of (qW _)|(refine qE.bind ?_ (λ_=>?_))|(refine qE.ite ?_ ?_))|split))
theorem NP(t:aG)(x:ai):qE P (Instr.makeInterface t x):=by
 unfold Instr.makeInterface
 (repeat'(first|with_reducible(first|exact ry _|exact t_ _|exact qE.of (qy _)|(refine qE.bind ?_ (λ_=>?_)))|split))
theorem agZ(x y:ai):qE P (Builtin.max2 x y):=by unfold Builtin.max2;split<;>(repeat'(first|with_reducible(first|exact ry _|exact t_ _)|((with_reducible refine wK ?_);exact trivial)|with_reducible(first|exact Ci _|exact qE.of (EF _ _ _)|exact qE.of (Dz _)|(refine qE.bind ?_ (λ_=>?_)))|split))
theorem Pm:∀(l:aK)(x:ai),qE P (l.foldlM Builtin.max2 x)
 |[],x=>by rw[List.foldlM_nil];exact ry _
 |y::l,x=>by rw[List.foldlM_cons];exact qE.bind (agZ x y) λr=>Pm l r
theorem ajT(ts:Array aG)(t:aG)(auf:aH):qE P (Builtin.max_ ts t auf):=by
 unfold Builtin.max_;split
 .exact t_ _
 .exact Pm _ _
theorem Vs(t:aG)(x:Place):qE P (x.get t):=by
 unfold Place.get
 (repeat'(first|with_reducible(first|exact ry _|exact qE.of (wO _ _))|split))
theorem Ry:∀(path:List FieldStep)(t:aG)(x:Place),qE P (follow path t x)
 |[],_,_=>ry _
 |s::rest,t,x=>by
  have ih:=Ry rest;unfold follow
  (repeat'(first|with_reducible(first|exact t_ _|exact ih _ _|exact Vs _ _|exact qE.of (qy _)|exact qE.of (Dy _)|exact qE.of (GM _ _)|exact qE.of (yL _ _ _)|(refine qE.bind ?_ (λ_=>?_))|(refine qE.ite ?_ ?_))|split))
theorem ZG(ts:Array aG)(t:aG)(auf:aH):qE P (Builtin.ssaWrapNilChk_ ts t auf):=by
 unfold Builtin.ssaWrapNilChk_;rcases auf with⟨_|⟨a,_|⟨b,_|⟨c,_|⟨d,l⟩⟩⟩⟩⟩
 case cons.cons.cons.nil=>
  cases b<;>first|exact t_ _|skip
  cases c<;>first|exact t_ _|skip
  cases a<;>first|exact t_ _|skip
  rename_i p;cases p with
  |some _=>exact ry _
  |none=>
   refine qE.bind (s:=choose (.extern "ssa:wrapnilchk.dereferenced" 2)) (Ci _) λr=>?_
   (repeat'(first|with_reducible exact t_ _|((with_reducible refine wK ?_);exact trivial)|with_reducible(first|exact qE.of (qy _)|exact qE.of (rD _)|exact qE.of (qW _)|(refine qE.bind ?_ (λ_=>?_))|(refine qE.ite ?_ ?_))|split|(dsimp only)))
 all_goals exact t_ _
theorem SK(xt:aG)(x:Place)(p:Bool)(wr:Option String):qE P (receiverAt xt x p wr):=by
 unfold receiverAt
 (repeat'(first|with_reducible(first|exact ry _|exact t_ _|exact Vs _ _|exact ZG _ _ _|exact qE.of (qy _)|exact qE.of (wO _ _)|exact qE.of (Dy _)|(refine qE.bind ?_ (λ_=>?_)))|split))
theorem Rz:∀(n:Nat)(t:aG)(v:ai)(name:String),qE P (method n t v name)
 |0,_,_,_=>wK trivial
 |n+1,t,v,name=>by
  have ih:=Rz n;unfold method
  (repeat'(first|with_reducible(first|exact ry _|exact t_ _|exact ih _ _ _|exact Ry _ _ _|exact Vs _ _|exact SK _ _ _ _|exact qE.of (rD _)|exact qE.of (qW _)|(refine qE.bind ?_ (λ_=>?_)))|split))
end
end Go.Lf
namespace Go.Lf
def zG(P:aP){α:Type}(Q:α->Prop):Sem α->Prop
 | .pure a=>Q a
 | .load _ _ k=>∀v,zG P Q (k v)
 | .store _ _ _ k=>zG P Q k
 | .new _ k=>∀r,zG P Q (k r)
 | .shape _ k=>∀s,zG P Q (k s)
 | .freeze _ _ k=>zG P Q k
 | .frozen _ k=>∀b,zG P Q (k b)
 | .getObj _ k=>∀o,zG P Q (k o)
 | .setObj _ _ k=>zG P Q k
 | .choose _ k=>∀n,zG P Q (k n)
 | .sys _ k=>∀r,zG P Q (k r)
 | .program k=>zG P Q (k P)
 | .mark _ k=>zG P Q k
 | .halt _=>True
section
variable {P:aP}{α β:Type}
theorem rM{Q:β->Prop}:∀(s:Sem α)(f:α->Sem β),(∀a,zG P Q (f a))->zG P Q (s.bind f)
 | .pure a,_,h=>h a
 | .load _ _ k,f,h=>λv=>rM (k v) f h
 | .store _ _ _ k,f,h=>rM k f h
 | .new _ k,f,h=>λv=>rM (k v) f h
 | .shape _ k,f,h=>λv=>rM (k v) f h
 | .freeze _ _ k,f,h=>rM k f h
 | .frozen _ k,f,h=>λv=>rM (k v) f h
 | .getObj _ k,f,h=>λv=>rM (k v) f h
 | .setObj _ _ k,f,h=>rM k f h
 | .choose _ k,f,h=>λv=>rM (k v) f h
 | .sys _ k,f,h=>λv=>rM (k v) f h
 | .program k,f,h=>rM (k P) f h
 | .mark _ k,f,h=>rM k f h
 | .halt _,_,_=>trivial
theorem uC{R:α->Prop}{Q:β->Prop}:∀(s:Sem α)(f:α->Sem β),zG P R s->(∀a,R a->zG P Q (f a))->zG P Q (s.bind f)
 | .pure a,_,hs,h=>h a hs
 | .load _ _ k,f,hs,h=>λv=>uC (k v) f (hs v) h
 | .store _ _ _ k,f,hs,h=>uC k f hs h
 | .new _ k,f,hs,h=>λv=>uC (k v) f (hs v) h
 | .shape _ k,f,hs,h=>λv=>uC (k v) f (hs v) h
 | .freeze _ _ k,f,hs,h=>uC k f hs h
 | .frozen _ k,f,hs,h=>λv=>uC (k v) f (hs v) h
 | .getObj _ k,f,hs,h=>λv=>uC (k v) f (hs v) h
 | .setObj _ _ k,f,hs,h=>uC k f hs h
 | .choose _ k,f,hs,h=>λv=>uC (k v) f (hs v) h
 | .sys _ k,f,hs,h=>λv=>uC (k v) f (hs v) h
 | .program k,f,hs,h=>uC (k P) f hs h
 | .mark _ k,f,hs,h=>uC k f hs h
 | .halt _,_,_,_=>trivial
theorem uM{Q:α->Prop}:∀(s:Sem α),zG P Q s->∀(w:ah)(es:aN)(x:α)(w':ah)(rF:aN),s.runT P w es=(.ok x w',rF)->Q x
 | .pure a,h,w,es,x,w',rF,hr=>by simp only[Sem.runT]at hr;cases hr;exact h
 | .load m a k,h,w,es,x,w',rF,hr=>by
   unfold Sem.runT at hr;cases hc:w.cell? a with
   |some v=>rw[hc]at hr;exact uM (k v) (h v) _ _ _ _ _ hr
   |none=>
    rw[hc]at hr;dsimp only at hr;cases hf:w.farLoad P a (m==.atomic)with
    |ok r=>rw[hf]at hr;exact uM (k r.1) (h r.1) _ _ _ _ _ hr
    |error e=>rw[hf]at hr;cases hr
 | .store m a v k,h,w,es,x,w',rF,hr=>by
   have key:(∀(w:ah),(Sem.store m a v k).runT P w es=match w.cell? a with
     |some _=>if w.frozen? a then(.halt (.unsupported (.unsafePointer "a write to bytes that a string shares")) w,es)else k.runT P (w.setCell a v) (es.push ⟨.cell a,true,m==Mode.atomic⟩)
     |none=>match w.farStore P a v (m==Mode.atomic)with
      | .ok (w,touched)=>k.runT P w (es++touched.toArray.map (⟨.cell ·,true,m==Mode.atomic⟩))
      | .error h=>(.halt h w,es))\/(∀(w:ah),(Sem.store m a v k).runT P w es=(.halt (.stuck "store: not the value of one cell") w,es)):=by
    cases v<;>first|exact .inr λ_=>rfl|exact .inl λ_=>rfl
   rcases key with key|key
   .rw[key]at hr;cases hc:w.cell? a with
    |some u=>
     rw[hc]at hr;dsimp only at hr;split at hr
     .cases hr
     .exact uM k h _ _ _ _ _ hr
    |none=>
     rw[hc]at hr;dsimp only at hr;cases hf:w.farStore P a v (m==.atomic)with
     |ok r=>rw[hf]at hr;exact uM k h _ _ _ _ _ hr
     |error e=>rw[hf]at hr;cases hr
   .rw[key]at hr;cases hr
 | .new o k,h,w,es,x,w',rF,hr=>uM (k w.heap.size) (h _) _ es x w' rF hr
 | .shape r k,h,w,es,x,w',rF,hr=>uM (k (w.shape? r)) (h _) w es x w' rF hr
 | .freeze a n k,h,w,es,x,w',rF,hr=>uM k h (w.freeze a n) es x w' rF hr
 | .frozen a k,h,w,es,x,w',rF,hr=>uM (k (w.frozen? a)) (h _) w es x w' rF hr
 | .getObj r k,h,w,es,x,w',rF,hr=>by
   unfold Sem.runT at hr;split at hr
   .cases hr
   .exact uM (k _) (h _) _ _ _ _ _ hr
   .cases hr
 | .setObj r o k,h,w,es,x,w',rF,hr=>by
   unfold Sem.runT at hr;split at hr
   .cases hr
   .exact uM k h _ _ _ _ _ hr
   .cases hr
 | .choose q k,h,w,es,x,w',rF,hr=>by
   unfold Sem.runT at hr;split at hr
   .exact uM (k 0) (h _) _ _ _ _ _ hr
   .exact uM (k _) (h _) _ _ _ _ _ hr
 | .sys c k,h,w,es,x,w',rF,hr=>uM (k (w.sys c).1) (h _) (w.sys c).2 _ x w' rF hr
 | .program k,h,w,es,x,w',rF,hr=>uM (k P) h w es x w' rF hr
 | .mark m k,h,w,es,x,w',rF,hr=>uM k h w _ x w' rF hr
 | .halt _,_,_,_,_,_,_,hr=>avb
theorem RF{f:α->Sem β}(h:∀a,Plain P (f a)):∀l:List α,Plain P (l.mapM f)
 |[]=>trivial
 |a::l=>by rw[List.mapM_cons];exact qo (h a) λb=>qo (RF h l) λbs=>qm _
theorem Vd{f:α->Sem β}(h:∀a,Plain P (f a))(l:Array α):Plain P (l.mapM f):=by rw[Array.mapM_eq_mapM_toList];exact Qd (RF h _)
end
def isInt(P:aP)(t:aG):Bool:=match P.underlying t with|some (.int _)=>true|_=>false
theorem Vt{P:aP}{t:aG}(h:isInt P t=true):∃k,P.underlying t=some (.int k):=by
 unfold isInt at h;split at h
 .exact⟨_,dG⟩
 .cases h
def TV(P:aP)(s d:aG):Bool:=match P.underlying s,P.underlying d with
 |some (.slice e),some .string=>(match P.underlying e with|some (.int .u8)=>true|_=>false)
 |_,_=>false
theorem ZH{P:aP}{s d:aG}(h:TV P s d=true):∃e,P.underlying s=some (.slice e)/\P.underlying d=some .string/\P.underlying e=some (.int .u8):=by
 unfold TV at h;split at h
 .rename_i e h1 h2;split at h
  .exact⟨e,h1,h2,dG⟩
  .cases h
 .cases h
def isStr(P:aP)(s d:aG):Bool:=match P.underlying s,P.underlying d with
 |some .string,some (.slice e)=>(match P.underlying e with|some (.int .u8)=>true|_=>false)
 |_,_=>false
theorem adQ{P:aP}{s d:aG}(h:isStr P s d=true):∃e,P.underlying s=some .string/\P.underlying d=some (.slice e)/\P.underlying e=some (.int .u8):=by
 unfold isStr at h;split at h
 .rename_i e h1 h2;split at h
  .exact⟨e,h1,h2,dG⟩
  .cases h
 .cases h
def X8:Builtin->Bool
 | .len| .cap| .append| .copy| .min| .max=>true
 |_=>false
def arity(P:aP)(f:aU):Nat:=match P.funcs[f]? with
 |some fn=>fn.params.size+fn.nfree
 |none=>0
abbrev Y6:=List (Nat×aU×Nat)
def Rh(S:Y6)(x:aU×Nat):Op->Bool
 | .makeFunc (.func g) first cap=>g==x.1&&first.size+cap.size==x.2
 | .move (.tmp j)=>S.contains (j,x)
 | .assign (.tmp j)=>S.contains (j,x)
 |_=>false
def aqX(S:Y6)(o:Oper):Bool:=S.all λx=>if o.dst==some x.1 then Rh S x.2 o.op else true
def adR(P:aP)(F:aU->Bool)(n:Nat)(name:String):Bool:=P.types.all λi=>i.methods.all λm=>m.name != name||match m.func with
 |none=>true
 |some (f,_)=>F f&&decide (n<=arity P f)
def Fz(P:aP)(F:aU->Bool)(S:Y6)(o:Oper):Bool:=
 aqX S o&&match o.op with
 | .move _| .assign _| .pick ..| .alloc _| .box ..| .build ..| .buildSlice ..| .load ..| .store ..| .nilCheck _| .unOp ..| .makeSlice ..| .makeFunc ..| .slice ..| .fieldAddr ..| .field ..| .indexAddr ..| .index ..| .extract ..| .binOp ..| .typeAssert ..| .makeInterface ..| .panic _=>true
 | .convert s d _=>(isInt P s&&isInt P d)||TV P s d||isStr P s d
 | .call c=>match c.callee with
   | .builtin b=>X8 b
   | .value (.func f)=>F f&&decide (c.args.size<=arity P f)
   | .value (.tmp j)=>S.any (λx=>x.1==j)&&S.all λx=>if x.1==j then F x.2.1&&decide (x.2.2+c.args.size<=arity P x.2.1)else true
   | .invoke _ name=>adR P F (1+c.args.size) name
   |_=>false
 |_=>false
def uz(P:aP)(F:aU->Bool)(S:Y6):Code->Bool
 | .skip| .ret| .exit _=>true
 | .seq a b=>uz P F S a&&uz P F S b
 | .cond _ a b=>uz P F S a&&uz P F S b
 | .block _ c=>uz P F S c
 | .loop c=>uz P F S c
 | .region _ ops _=>ops.all (Fz P F S)
 |_=>false
abbrev aoR(P:aP)(F:aU->Bool)(o:Oper):Bool:=Fz P F [] o
abbrev Hq(P:aP)(F:aU->Bool)(c:Code):Bool:=uz P F [] c
def Jr(P:aP)(F:aU->Bool)(f:aU):Prop:=∃fn c S,P.funcs[f]?=some fn/\(fn.name== "runtime.NumGoroutine")=false/\fn.body=some c/\uz P F S c=true/\∀x∈S,arity P f<=x.1
def OH(P:aP)(f:aU):Prop:=∃fn,P.funcs[f]?=some fn/\(fn.name== "runtime.NumGoroutine")=false/\fn.body=none/\Extern.findNext fn=none/\∀e,Extern.find fn=some e->∀auf,qE P (e auf)
def x9(P:aP)(F:aU->Bool):Prop:=∀f,F f=true->Jr P F f\/OH P f
def afj(P:aP)(f:aU):Bool:=(P.funcs[f]?).any (·.body.isSome)
theorem x9.body{P:aP}{F:aU->Bool}(h:x9 P F){f:aU}(hf:F f=true)(hb:afj P f=true):Jr P F f:=by
 rcases h f hf with h1|⟨fn,h1,_,h3,_⟩
 .exact h1
 .unfold afj at hb;rw[h1]at hb;simp[h3]at hb
def Yld(P:aP)(F:aU->Bool)(x:Next):Prop:=(∃v,x=.value v)\/x=.skip\/∃f auf,Jr P F f/\auf.size<=arity P f/\x=.enter f auf
section
variable {P:aP}{F:aU->Bool}
theorem BQ(hF:x9 P F){f:aU}(hf:F f=true){auf:aH}(ha:auf.size<=arity P f):qE P (callFunc f auf)/\zG P (Yld P F) (callFunc f auf):=by
 rcases hF f hf with⟨fn,c,S,h1,h2,h3,h4,h5⟩|⟨fn,h1,h2,h3,h4,h6⟩
 .have hne:fn.body.isNone=false:=by rw[h3];rfl
  have key:∀(Q:Sem Next->Prop),Q (pure (.enter f auf))->Q ((λp:aP=>match p.funcs[f]? with
   |none=>stuck "call: no such function"
   |some fn=>if fn.name== "runtime.NumGoroutine" then pure .numGoroutine
    else if fn.body.isNone then(do
     mark (.extern f)
     if let some e:=Extern.findNext fn then return<-e auf
     match Extern.find fn with
     |some e=>pure (.value (<-e auf))
     |none=>
      if fn.name.endsWith ".init" &&!fn.name.startsWith "(" &&!fn.name.startsWith "gosem." then pure (.value (.tuple #[]))
      else unsupported (.extern fn.name))
    else pure (.enter f auf):aP->Sem Next) P):=λQ hQ=>by
   dsimp only;rw[h1];dsimp only;rw[h2,hne];exact hQ
  refine⟨qE.of (key (Plain P) (qm _)),key (zG P (Yld P F)) (.inr (.inr ⟨f,auf,⟨fn,c,S,h1,h2,h3,h4,h5⟩,ha,rfl⟩))⟩
 .have hne:fn.body.isNone=true:=by rw[h3];rfl
  have hm:qE P (mark (.extern f)):=qE.of ⟨.inr ⟨f,rfl⟩,trivial⟩;cases h5:Extern.find fn with
  |some x=>
   have key:∀(Q:Sem Next->Prop),Q (mark (.extern f)>>=λ_=>(do pure (.value (<-x auf))))->Q ((λp:aP=>match p.funcs[f]? with
    |none=>stuck "call: no such function"
    |some fn=>if fn.name== "runtime.NumGoroutine" then pure .numGoroutine
     else if fn.body.isNone then(do
      mark (.extern f)
      if let some e:=Extern.findNext fn then return<-e auf
      match Extern.find fn with
      |some e=>pure (.value (<-e auf))
      |none=>
       if fn.name.endsWith ".init" &&!fn.name.startsWith "(" &&!fn.name.startsWith "gosem." then pure (.value (.tuple #[]))
       else unsupported (.extern fn.name))
     else pure (.enter f auf):aP->Sem Next) P):=λQ hQ=>by
    exact axU
   have h8:qE P (mark (.extern f)>>=λ_=>(do pure (Next.value (<-x auf)):Sem Next)):=qE.bind hm λ_=>qE.bind (h6 x h5 auf) λ_=>ry _
   have h9:zG P (Yld P F) (mark (.extern f)>>=λ_=>(do pure (Next.value (<-x auf)):Sem Next)):=rM (mark (.extern f)) _ λ_=>rM (x auf) _ λv=>.inl ⟨v,rfl⟩
   exact⟨Qq (key (λs=>qE P s) h8),key (zG P (Yld P F)) h9⟩
  |none=>
   have key:∀(Q:Sem Next->Prop),Q (mark (.extern f)>>=λ_=>(if(fn.name.endsWith ".init" &&!fn.name.startsWith "(" &&!fn.name.startsWith "gosem.")=true then pure (.value (.tuple #[]))else unsupported (.extern fn.name)))->Q ((λp:aP=>match p.funcs[f]? with
    |none=>stuck "call: no such function"
    |some fn=>if fn.name== "runtime.NumGoroutine" then pure .numGoroutine
     else if fn.body.isNone then(do
      mark (.extern f)
      if let some e:=Extern.findNext fn then return<-e auf
      match Extern.find fn with
      |some e=>pure (.value (<-e auf))
      |none=>
       if fn.name.endsWith ".init" &&!fn.name.startsWith "(" &&!fn.name.startsWith "gosem." then pure (.value (.tuple #[]))
       else unsupported (.extern fn.name))
     else pure (.enter f auf):aP->Sem Next) P):=λQ hQ=>by
    exact axU
   refine⟨Qq (key (λs=>qE P s) (qE.bind hm λ_=>qE.ite (ry _) (wK trivial))),key (zG P (Yld P F)) (rM (mark (.extern f)) _ λ_=>?_)⟩;split
   .exact .inl ⟨_,rfl⟩
   .exact trivial
end
attribute [local irreducible] Plain
section
variable {P:aP}{F:aU->Bool}
theorem abX(t:aG)(ps:Array (Nat×ai)):Plain P (Instr.build t ps):=by
 unfold Instr.build
 (repeat'(first|with_reducible(first|exact qm _|exact qp _|exact v_ _|exact qy _|exact sK _|exact Vd (λ_=>qo (sK _) λ_=>qm _) _|(refine qo ?_ (λ_=>?_)))|split))
theorem adS{s d:aG}{k k':IntKind}(hs:P.underlying s=some (.int k))(hd:P.underlying d=some (.int k'))(x:ai):Plain P (convert s d x):=by
 unfold convert;refine Cf hs (Cf hd ?_);have h1:∀k n,Plain P (Conv.intToInt k n):=λk n=>by unfold Conv.intToInt;(repeat'(with_reducible exact qm _))
 have h2:∀a b k,Plain P (Conv.floatToInt a b k):=λa b k=>by unfold Conv.floatToInt;(repeat'(first|with_reducible(first|exact qm _|exact u_ _|(refine qo ?_ (λ_=>?_))|(refine qL ?_ ?_))|split))
 split<;>first|contradiction|(repeat'(first|((with_reducible refine rE ?_);exact trivial)|with_reducible(first|exact h1 _ _|exact h2 _ _ _)))
theorem RG{γ σ:Type}{f:γ->σ->Sem (ForInStep σ)}(h:∀a s,Plain P (f a s)):∀(l:List γ)(s:σ),Plain P (forIn l s f)
 |[],s=>by rw[List.forIn_nil];exact qm _
 |a::l,s=>by
  rw[List.forIn_cons];refine qo (h a s) λr=>?_
  cases r with
  |done b=>exact qm _
  |yield b=>exact RG h l b
theorem WR(x:ai):Plain P (Conv.bytesToString x):=by
 unfold Conv.bytesToString;split
 .exact qm _
 .refine qo (C9 _ _) λcs=>qo ?_ λ_=>qm _
  rw[<-Array.forIn_toList];refine RG (λc s=>?_) _ _
  (repeat'(first|with_reducible(first|exact qm _|exact qp _|(refine qo ?_ (λ_=>?_)))|split))
 ·(repeat'(with_reducible exact qp _))
theorem abY{s d e:aG}(hs:P.underlying s=some (.slice e))(hd:P.underlying d=some .string)(he:P.underlying e=some (.int .u8))(x:ai):Plain P (convert s d x):=by
 unfold convert;refine Cf hs (Cf hd ?_);have h1:∀n,Plain P (Conv.intToString n):=λn=>by unfold Conv.intToString;(repeat'(with_reducible exact qm _))
 have h2:Plain P (underlying e>>=λu=>match u with| .int .u8=>Conv.bytesToString x| .int .i32=>Conv.runesToString x|_=>stuck "Convert: a slice of what to string?"):=Cf he (WR x);split
 all_goals first
  |contradiction
  |exact qm _
  |exact h1 _
  |(rename_i hh _ _ _;cases hh;exact h2)
  |trivial
  |(repeat'((with_reducible refine rE ?_);exact trivial))
theorem qE.congr{α:Type}{s s':Sem α}(h:∀w es,s.runT P w es=s'.runT P w es)(h':qE P s'):qE P s:=
 ⟨λw v es x v' rF hs hr=>by rw[h]at hr⊢;exact h'.VW w v es x v' rF hs hr,λv es x v' rF hn hr=>by rw[h]at hr;obtain⟨a,b,c⟩:=h'.tape v es x v' rF hn hr;exact⟨a,b,λτ hτ=>by rw[h];exact c τ hτ⟩,λw v es x v' rF hs hr=>by rw[h]at hr;exact h'.RY w v es x v' rF hs hr⟩
theorem ag0(w:ah)(cs:aH)(t:aG):({w with heap:=w.heap.push (.cells cs t)}:ah).freeze ⟨w.heap.size,cs.size,none⟩ 1={w with heap:=w.heap.push (.cells cs t (cs.size,cs.size+1))}:=by
 unfold World.freeze;rw[au aB]
 congr 1
 apply Array.ext
 .simp
 .intro i h1 h2;rw[Array.getElem_modify];have hi:i<w.heap.size+1:=jE;by_cases e:w.heap.size=i
  .subst e;simp
  .rw[au e,av6 ag,av6 ag]
theorem ZI(t:aG)(s:ByteArray):qE P (Conv.stringToBytes t s):=by
 unfold Conv.stringToBytes;refine qE.bind (Ci _) λcap=>?_
 dsimp only;generalize(s.data.map λ(b:UInt8)=>Value.int .u8 b.toNat)++Array.replicate (cap-s.size) (Value.int .u8 0)=cs;refine qE.congr (s':=newObj (.cells cs t (cs.size,cs.size+1))>>=λb=>pure (.slice (some ⟨b,0,none⟩) s.size cap)) (λw es=>?_) (qE.of (qo (K_ trivial) λ_=>qm _));have hg:({w with heap:=w.heap.push (.cells cs t)}:ah).shape? w.heap.size=some (t,cs.size):=by simp[World.shape?]
 show((markStringish ⟨w.heap.size,0,none⟩).bind λ_=>Sem.pure (Value.slice (some ⟨w.heap.size,0,none⟩) s.size cap)).runT P {w with heap:=w.heap.push (.cells cs t)} es=_;unfold markStringish;simp only[shape,freeze,bind,Sem.bind,Sem.runT,hg,pure];rw[ag0];rfl
theorem adT{s d e:aG}(hs:P.underlying s=some .string)(hd:P.underlying d=some (.slice e))(he:P.underlying e=some (.int .u8))(x:ai):qE P (convert s d x):=by
 have key:∀(k:TypeDesc->Sem ai)(t:aG)(u:TypeDesc),P.underlying t=some u->qE P (k u)->qE P (underlying t>>=k):=λk t u ht hk=>by refine qE.congr (s':=k u) (λw es=>?_) hk;show((match P.underlying t with|some d=>pure d|none=>stuck "no such type" :Sem TypeDesc).bind k).runT P w es=_;rw[ht];rfl
 unfold convert;refine key _ s _ hs (key _ d _ hd ?_);cases x
 case string b=>exact key _ e _ he (ZI e b)
 case slice a n c=>cases a<;>exact wK (u:=.noEntry "convert/other") trivial
 case pointer a=>cases a<;>exact wK (u:=.noEntry "convert/other") trivial
 all_goals exact wK (u:=.noEntry "convert/other") trivial
theorem adU(x y:ai):Plain P (Builtin.min2 x y):=by unfold Builtin.min2;split<;>(repeat'(first|with_reducible(first|exact qm _|exact qp _)|((with_reducible refine rE ?_);exact trivial)|with_reducible(first|exact u_ _|exact EF _ _ _|exact Dz _|(refine qo ?_ (λ_=>?_)))|split))
theorem MO:∀(l:aK)(x:ai),Plain P (l.foldlM Builtin.min2 x)
 |[],x=>by rw[List.foldlM_nil];exact qm _
 |y::l,x=>by rw[List.foldlM_cons];exact qo (adU x y) λr=>MO l r
theorem ag1(ts:Array aG)(t:aG)(auf:aH):Plain P (Builtin.min_ ts t auf):=by
 unfold Builtin.min_;split
 ·(repeat'(with_reducible exact qp _))
 .exact MO _ _
theorem FC:∀(path:List FieldStep)(t:aG)(x:Option ai),Plain P (followBlind path t x)
 |[],_,_=>qm _
 |s::rest,_,_=>by
  unfold followBlind;have ih:=FC rest
  (repeat'(first|with_reducible(first|exact qm _|exact qp _|exact qy _|exact yL _ _ _|exact ih _ _|(refine qo ?_ (λ_=>?_)))|split))
theorem JY:∀(n:Nat)(t:aG)(v:ai)(name:String),Plain P (nilAhead n t v name)
 |0,_,_,_=>qm _
 |n+1,t,v,name=>by
  unfold nilAhead;have ih:=JY n
  (repeat'(first|with_reducible(first|exact qm _|exact qp _|exact rD _|exact qy _|exact FC _ _ _|exact ih _ _ _|(refine qo ?_ (λ_=>?_)))|split))
theorem abZ{Q:Next->Prop}:zG P Q (runtimePanic .nilDeref:Sem Next):=by unfold runtimePanic;exact rM program _ λp=>trivial
theorem sO{s:Sem ai}:zG P (Yld P F) (do pure (.value (<-s))):=rM s _ λa=>.inl ⟨a,rfl⟩
theorem ag2{s:Sem Unit}:zG P (Yld P F) (do s;pure .skip):=rM s _ λ_=>.inr (.inl rfl)
theorem ZJ(info:aG->Option TypeInfo)(d:TypeDesc)(i:TypeInfo)(h:Made.reckon info d=some i):i.methods=#[]:=by
 have hs:∀fs,Made.reckonStruct info fs=some i->i.methods=#[]:=λfs h=>by unfold Made.reckonStruct at h;simp only[oJ,lT,auG]at h;obtain⟨r,_,h⟩:=h;split at h<;>(cases h;rfl)
 unfold Made.reckon at h;split at h
 case h_7=>exact hs _ h
 case h_1=>
  simp only[oJ,lT,auG]at h;obtain⟨r,_,h⟩:=h;split at h
  .cases h
  .split at h
   .cases h
   .obtain⟨_,_,h⟩:=lT.1 h;cases h;rfl
  .obtain⟨_,_,h⟩:=lT.1 h;cases h;rfl
 all_goals first
  |cases h
  |(simp only[oJ,lT,auG]at h
    repeat (obtain⟨_,_,h⟩:=h)
    first|rfl|(cases h;rfl))
theorem ZK{t:aG}{i:TypeInfo}(h:P.info? t=some i):i∈P.types\/i.methods=#[]:=by
 have key:∀n,Made.infoAt P.toTables n t=some i->i∈P.types\/i.methods=#[]:=λn hn=>by
  cases n with
  |zero=>cases hn
  |succ n=>
   unfold Made.infoAt at hn;split at hn
   .exact .inl (fJ hn)
   .obtain⟨d,_,hd⟩:=lT.1 hn;exact .inr (ZJ _ _ _ hd)
 unfold Tables.info? at h;split at h
 .exact .inl (fJ h)
 .exact key _ h
theorem qE.aqY{α β:Type}{R:α->Prop}{s:Sem α}{f:α->Sem β}(h:qE P s)(hl:zG P R s)(h':∀a,R a->qE P (f a)):qE P (s>>=f):=by
 have e:∀w es,(s>>=f).runT P w es=match s.runT P w es with
   |(.ok a w',rF)=>(f a).runT P w' rF
   |(.halt x w',rF)=>(.halt x w',rF):=λw es=>Go.Sem.runT_bind' P s f w es
 have key:∀a v es v1 LZ,s.runT P v es=(.ok a v1,LZ)->qE P (f a):=λa v es v1 LZ hr=>h' a (uM s hl v es a v1 LZ hr)
 refine⟨λw v es x v' rF hs hr=>?_,λv es x v' rF hn hr=>?_,λw v es x v' rF hs hr=>?_⟩
 .rw[e]at hr;cases EO:s.runT P v es with
  |mk r LZ=>
   rw[EO]at hr;cases r with
   |halt y v1=>cases hr
   |ok a v1=>
    obtain⟨w1,h1,h2,h3,h4⟩:=h.VW w v es a v1 LZ hs EO;obtain⟨w2,g1,g2,g3,g4⟩:=(key _ _ _ _ _ EO).VW w1 v1 LZ x v' rF h2 hr;refine⟨w2,by rw[e,h1];exact g1,g2,ag,λev hev=>?_⟩;rcases g4 ev hev with g5|g5
    .rcases h4 ev g5 with g6|g6
     .exact .inl g6
     .exact .inr (g6.grow awx)
    .exact .inr g5
 .rw[e]at hr;cases EO:s.runT P v es with
  |mk r LZ=>
   rw[EO]at hr;cases r with
   |halt y v1=>cases hr
   |ok a v1=>
    obtain⟨h1,h2,h3⟩:=h.tape v es a v1 LZ hn EO;obtain⟨w1,_,Ai,_,_⟩:=h.VW v v es a v1 LZ (yg.self hn) EO;obtain⟨g1,g2,g3⟩:=(key _ _ _ _ _ EO).tape v1 LZ x v' rF Ai.nv hr;exact ayN
 .rw[e]at hr;cases EO:s.runT P v es with
  |mk r LZ=>
   rw[EO]at hr;cases r with
   |halt y v1=>
    cases hr;exact h.RY w v es x v' rF hs EO
   |ok a v1=>
    obtain⟨w1,_,h2,_,_⟩:=h.VW w v es a v1 LZ hs EO;exact(key _ _ _ _ _ EO).RY w1 v1 LZ x v' rF h2 hr
theorem WT(t:aG):zG P (λi=>P.info? t=some i) (typeInfo t):=by
 unfold typeInfo;show zG P (λi=>P.info? t=some i) (match P.info? t with|some i=>pure i|none=>_);cases h:P.info? t with
 |some i=>exact rfl
 |none=>trivial
theorem JZ{n:Nat}{name:String}(h:adR P F n name=true):∀(fuel:Nat)(t:aG)(v:ai),zG P (λr=>F r.1=true/\n<=arity P r.1) (method fuel t v name)
 |0,_,_=>trivial
 |fuel+1,t,v=>by
  have ih:=JZ h fuel;unfold method;refine uC (typeInfo t) _ (WT t) λi hi=>?_
  cases hm:i.methods.find? (·.name==name)with
  |none=>trivial
  |some m=>
   have h1:=Array.mem_of_find?_eq_some hm;have h2:(m.name==name)=true:=by simpa using Array.find?_some hm
   refine rM (follow _ _ _) _ λr=>?_
   obtain⟨xt,x⟩:=r;dsimp only;cases hf:m.func with
   |none=>
    refine rM (x.get xt) _ λu=>?_
    cases u<;>first
     |exact ih _ _
     |trivial
     |(unfold runtimePanic;exact rM program _ λp=>trivial)
   |some q=>
    obtain⟨f,pr⟩:=q;refine rM (receiverAt _ _ _ _) _ λu=>?_
    rcases ZK hi with h3|h3
    .have h4:=l9.1 h i h3;have h5:=l9.1 h4 m h1;rw[hf]at h5;simp only[bne,h2,jD,jS,fU,iG]at h5;exact h5
    .rw[h3]at h1;simp at h1
theorem adV(x:ai):qE P (Instr.panic x):=by
 have key:∀(v:ah)(es:aN),(∀(b:Nat)(o:Obj),v.heap[b]?=some o->xy o)->∃h v' rF,(Instr.panic x).runT P v es=(.halt h v',rF)/\F5 h:=λv es hn=>by
  cases x<;>first
   |exact⟨_,_,_,rfl,trivial⟩
   |skip
  have e2:∃(n:Bool)(es2:aN),(Instr.panic .nilIface).runT P v es=(if n=true then goPanic .nilIface else runtimePanic .panicNil:Sem ai).runT P v es2:=⟨_,_,rfl⟩;obtain⟨n,es2,e2⟩:=e2;rw[e2];cases n with
  |true=>exact⟨_,_,_,rfl,trivial⟩
  |false=>
   simp only[dm,bU]
   have hd:qO P (runtimePanic .panicNil:Sem ai):=by unfold runtimePanic;exact qO.late program _ λp=>qO.late (elemOf _) _ λ_=>qO.late (newVar _ _) _ λ_=>trivial
   obtain⟨h,v',rF,h1⟩:=rQ _ hd v es2;exact⟨h,v',rF,h1,uG _ v v es2 h v' rF (qW _) (yg.self hn) h1⟩
 refine⟨λw v es x v' rF hs hr=>?_,λv es x v' rF hn hr=>?_,λw v es x v' rF hs hr=>?_⟩
 .obtain⟨h,v1,LZ,h1,_⟩:=key v es hs.nv;rw[h1]at hr;cases hr
 .obtain⟨h,v1,LZ,h1,_⟩:=key v es hn;rw[h1]at hr;cases hr
 .obtain⟨h,v1,LZ,h1,h2⟩:=key v es hs.nv;rw[h1]at hr;cases hr;exact h2
def Gw(S:Y6)(tmps:aH):Prop:=∀x∈S,tmps.getD x.1 undef=undef\/∃fs cs,tmps.getD x.1 undef=.func (.func x.2.1) fs cs/\fs.size+cs.size=x.2.2
theorem Zo(hF:x9 P F){S:Y6}{tmps:aH}{ρ:Operand->ai}(hρ:∀f,ρ (.func f)=.func (.func f) #[] #[])(hτ:∀j,ρ (.tmp j)=tmps.getD j undef)(hS:Gw S tmps){o:Oper}(ho:Fz P F S o=true):
  qE P (execOp ρ o)/\zG P (Yld P F) (execOp ρ o):=by
 obtain⟨dst,op,ty,pos,after,guard⟩:=o;have V:∀{s:Sem ai},Plain P s->qE P (do pure (Next.value (<-s)):Sem Next):=λh=>qE.of (qo h λ_=>qm _)
 have VO:∀{s:Sem ai},qE P s->qE P (do pure (Next.value (<-s)):Sem Next):=λh=>qE.bind h λ_=>ry _
 have U:∀{s:Sem Unit},Plain P s->qE P (do s;pure Next.skip:Sem Next):=λh=>qE.of (qo h λ_=>qm _)
 unfold Fz at ho;rw[fU]at ho;cases op
 case move=>exact⟨ry _,.inl ⟨_,rfl⟩⟩
 case assign=>exact⟨ry _,.inl ⟨_,rfl⟩⟩
 case pick c a b=>exact⟨qE.of (qo (Dz _) λ_=>qm _),rM (asBool _) _ λ_=>.inl ⟨_,rfl⟩⟩
 case alloc=>exact⟨V (abJ _ _ _),sO⟩
 case box=>exact⟨V (agV _ _),sO⟩
 case build=>exact⟨V (abX _ _),sO⟩
 case buildSlice=>exact⟨V (Qp _ _ _),sO⟩
 case load=>exact⟨V (Zz _ _),sO⟩
 case store=>exact⟨U (WA _ _ _),ag2⟩
 case nilCheck x=>
  have e:execOp ρ ⟨dst,.nilCheck x,ty,pos,after,guard⟩=(match ρ x with
   | .pointer none| .nilIface| .nilFunc=>runtimePanic .nilDeref
   | .func (.method name) first captured=>
     match(first[0]?:Option ai)with
     |some .nilIface=>runtimePanic .nilDeref
     |some (.iface t w)=>do
      if(<-nilAhead ((<-program).types.size+Made.depth) t w name) != some false then
       unsupported (.noEntry "op/nilCheck.the method's receiver behind this interface value is a nil pointer, or cannot be seen to be none, and the arguments act or may panic (ledger 612)")
      pure (.value (.func (.method name) first captured))
     |_=>pure (.value (.func (.method name) first captured))
   |x=>pure (.value x)):=rfl
  rw[e];have np:qE P (runtimePanic .nilDeref:Sem Next):=qE.of (qW _);have nl:zG P (Yld P F) (runtimePanic .nilDeref:Sem Next):=abZ;split
  .exact⟨np,nl⟩
  .exact⟨np,nl⟩
  .exact⟨np,nl⟩
  .split
   .exact⟨np,nl⟩
   .constructor
    .refine qE.of ?_
     (repeat'(first|with_reducible exact qm _|((with_reducible refine rE ?_);exact trivial)|with_reducible(first|exact rH|exact JY _ _ _ _|(refine qo ?_ (λ_=>?_))|(refine qL ?_ ?_))))
    .refine rM program _ λ_=>rM (nilAhead _ _ _ _) _ λr=>?_
     split
     .exact rM (unsupported _) _ λ_=>Or.inl ⟨_,rfl⟩
     .exact Or.inl ⟨_,rfl⟩
   .exact⟨ry _,.inl ⟨_,rfl⟩⟩
  .exact⟨ry _,.inl ⟨_,rfl⟩⟩
 case unOp=>exact⟨V (abL _ _),sO⟩
 case makeSlice=>exact⟨V (SH _ _ _),sO⟩
 case makeFunc=>exact⟨V (qm _),sO⟩
 case slice=>exact⟨V (WC _ _ _ _ _),sO⟩
 case fieldAddr=>exact⟨V (WG _ _ _),sO⟩
 case field=>exact⟨V (abN _ _ _),sO⟩
 case indexAddr=>exact⟨V (WB _ _ _),sO⟩
 case index=>exact⟨V (abO _ _ _),sO⟩
 case extract=>exact⟨V (WE _ _),sO⟩
 case binOp op t x y t'=>exact⟨VO (qE.bind (adO _ _ _ _ _ _) λ_=>adP _ _ _ _),sO⟩
 case typeAssert=>exact⟨VO (SI _ _ _ _),sO⟩
 case makeInterface=>exact⟨VO (NP _ _),sO⟩
 case panic=>exact⟨VO (adV _),sO⟩
 case convert s d x=>
  have h1:((isInt P s&&isInt P d)||TV P s d||isStr P s d)=true:=ho.2;rw[lZ,lZ,fU]at h1;rcases h1 with(h1|h1)|h1
  .obtain⟨k,hk⟩:=Vt h1.1;obtain⟨k',hk'⟩:=Vt h1.2;exact⟨V (adS hk hk' _),sO⟩
  .obtain⟨e,h2,h3,h4⟩:=ZH h1;exact⟨V (abY h2 h3 h4 _),sO⟩
  .obtain⟨e,h2,h3,h4⟩:=adQ h1;exact⟨VO (adT h2 h3 h4 _),sO⟩
 case call c=>
  obtain⟨callee,args,ats⟩:=c;cases callee with
  |builtin b=>
   have h1:X8 b=true:=ho.2;cases b
   case len=>exact⟨V (agW _ _ _),sO⟩
   case cap=>exact⟨V (agX _ _ _),sO⟩
   case append=>exact⟨V (ZB _ _ _),sO⟩
   case copy=>exact⟨V (adI _ _ _),sO⟩
   case min=>exact⟨V (ag1 _ _ _),sO⟩
   case max=>exact⟨VO (ajT _ _ _),sO⟩
   all_goals cases h1
  |invoke recv name=>
   have h1:adR P F (1+args.size) name=true:=ho.2
   have e:execOp ρ ⟨dst,.call ⟨.invoke recv name,args,ats⟩,ty,pos,after,guard⟩=callMethod (ρ recv) name ((#[ρ recv]++args.map ρ).extract 1 (#[ρ recv]++args.map ρ).size):=by
    have h0:(#[ρ recv]++args.map ρ)[0]?=some (ρ recv):=(av9 (Nat.zero_lt_one)).trans rfl
    show(match(#[ρ recv]++args.map ρ)[0]? with
     |some r=>callMethod r name ((#[ρ recv]++args.map ρ).extract 1 (#[ρ recv]++args.map ρ).size)
     |_=>stuck "call: a method without a receiver")=_
    rw[h0]
   rw[e];unfold callMethod;have hsz:((#[ρ recv]++args.map ρ).extract 1 (#[ρ recv]++args.map ρ).size).size=args.size:=aA;generalize(#[ρ recv]++args.map ρ).extract 1 (#[ρ recv]++args.map ρ).size=auf at hsz;cases ρ recv with
   |iface t v=>
    dsimp only;refine⟨Qq (qE.aqY (Rz _ _ _ _) (JZ h1 _ _ _) λr hr=>(BQ hF (auf:=#[r.2]++auf) hr.1 aJ).1),rM program _ λp=>uC (method _ _ _ _) _ (JZ h1 _ _ _) λr hr=>(BQ hF (auf:=#[r.2]++auf) hr.1 aJ).2⟩
   |nilIface=>exact⟨qE.of (qW _),abZ⟩
   |_=>exact⟨t_ _,trivial⟩
  |value x=>
   cases x with
   |func f=>
    have hf:(F f&&decide (args.size<=arity P f))=true:=ho.2;rw[fU,iG]at hf
    have e:execOp ρ ⟨dst,.call ⟨.value (.func f),args,ats⟩,ty,pos,after,guard⟩=callFunc f (#[]++args.map ρ++#[]):=by show(Deferred.ofValue (ρ (.func f)) (args.map ρ)>>=λd=>invoke d.target d.args)=_;rw[hρ];rfl
    rw[e];exact BQ hF (auf:=#[]++args.map ρ++#[]) hf.1 (by simpa using hf.2)
   |tmp j=>
    have hj:(S.any (λx=>x.1==j)&&S.all λx=>if x.1==j then F x.2.1&&decide (x.2.2+args.size<=arity P x.2.1)else true)=true:=ho.2;rw[fU]at hj;obtain⟨y,hy,hyj⟩:=List.any_eq_true.1 hj.1;have aqZ:y.1=j:=by simpa using hyj
    have h2:=jB.1 hj.2 y hy;rw[ax hyj,fU,iG]at h2;have e0:execOp ρ ⟨dst,.call ⟨.value (.tmp j),args,ats⟩,ty,pos,after,guard⟩=(Deferred.ofValue (ρ (.tmp j)) (args.map ρ)>>=λd=>invoke d.target d.args):=rfl;rw[e0,hτ];rcases hS y hy with h3|⟨fs,cs,h3,h4⟩
    .rw[<-aqZ,h3];exact⟨t_ _,trivial⟩
    .rw[<-aqZ,h3];exact BQ hF (auf:=fs++args.map ρ++cs) h2.1 aJ
   |_=>cases ho.2
 all_goals cases ho.2
